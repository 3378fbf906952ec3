import Derived.Test.YthgcdohndchdkaaGreatDoorBase29
/- Package ops: jobs on whole numbers, bit by bit. -/
namespace Go.Proofs.YthgcdohndchdkaaGreatDoor.W.Nu
open Go.ChangeShapes Go.WideShapes Go.RowKit Go.Shelf
set_option linter.unusedVariables false
theorem bit1_c (i j : Int) (w : World) : Calls Tryz.prog 114 #[.int .i64 i, .int .i64 j] w fun e w' => e = .returned (.tuple #[.int .i64 (bits .and .i64 i j), .int .i64 0]) ∧ w' = w := by
  go_enter Tryz.func114, Tryz.ntmps114
  go_wp2
  go_ret2
  exact ⟨rfl, rfl⟩
theorem eg_bit1 : ∀ args w, (callFunc 114 args).run Tryz.prog w = .ok (.enter 114 args) w := enters_of Tryz.func114 (by kernel_rfl) rfl
theorem bit2_c (i j : Int) (w : World) : Calls Tryz.prog 115 #[.int .i64 i, .int .i64 j] w fun e w' => e = .returned (.tuple #[.int .i64 (bits .or .i64 i j), .int .i64 0]) ∧ w' = w := by
  go_enter Tryz.func115, Tryz.ntmps115
  go_wp2
  go_ret2
  exact ⟨rfl, rfl⟩
theorem eg_bit2 : ∀ args w, (callFunc 115 args).run Tryz.prog w = .ok (.enter 115 args) w := enters_of Tryz.func115 (by kernel_rfl) rfl
theorem bit3_c (i j : Int) (w : World) : Calls Tryz.prog 116 #[.int .i64 i, .int .i64 j] w fun e w' => e = .returned (.tuple #[.int .i64 (bits .xor .i64 i j), .int .i64 0]) ∧ w' = w := by
  go_enter Tryz.func116, Tryz.ntmps116
  go_wp2
  go_ret2
  exact ⟨rfl, rfl⟩
theorem eg_bit3 : ∀ args w, (callFunc 116 args).run Tryz.prog w = .ok (.enter 116 args) w := enters_of Tryz.func116 (by kernel_rfl) rfl
theorem joins_c (g : Nat) (W : World) : Calls Tryz.prog 113 #[.func (.func g) #[] #[]] W fun e w' => e = .returned (.func (.func 173) #[] #[.pointer (some ⟨W.heap.size, 0, none⟩)]) ∧ w'.cell? ⟨W.heap.size, 0, none⟩ = some (.func (.func g) #[] #[]) ∧ Below W.heap.size W w' := by
  have hB : Below W.heap.size W (W.alloc (.cells #[.func (.func g) #[] #[]] 141)) := (Below.refl _ W).alloc (Nat.le_refl _) _
  have hc : (W.alloc (.cells #[.func (.func g) #[] #[]] 141)).cell? ⟨W.heap.size, 0, none⟩ = some (.func (.func g) #[] #[]) := by rw [World.cell?_alloc_new]; rfl
  have H := hid (And.intro hc hB)
  clear hc hB
  go_enter Tryz.func113, Tryz.ntmps113
  go_wp2
  go_ret
  exact ⟨rfl, H.out⟩
theorem below_drewN (w : World) (m : Nat) : Below w.heap.size w (w.drewN m) := ⟨rfl, rfl, rfl, Nat.le_refl _, fun _ _ => rfl⟩
section
variable {W : World} {hb vb : Nat} {vw vr : Value} {R : Ending → World → Prop}
set_option maxRecDepth 100000 in
theorem joins1_g (cp g : Nat) (eg : ∀ args w, (callFunc g args).run Tryz.prog w = .ok (.enter g args) w) (i j r b0 r0 b1 r1 : Int) (s0 s1 : ByteArray) (hc : W.cell? ⟨cp, 0, none⟩ = some (.func (.func g) #[] #[])) (hv : ∀ k, W.cell? ⟨vb, k, none⟩ = #[.int .i64 2, .int .i64 i, .int .u64 b0, .string s0, .int .u64 r0, .int .i64 2, .int .i64 j, .int .u64 b1, .string s1, .int .u64 r1][k]?)
    (cg : ∀ w, Calls Tryz.prog g #[.int .i64 i, .int .i64 j] w fun e w' => e = .returned (.tuple #[.int .i64 r, .int .i64 0]) ∧ w' = w)
    (cb : ∀ w', Below W.heap.size W w' → Calls Tryz.prog 8 #[.pointer (some ⟨hb, 0, none⟩), .agg #[.int .i64 2, .int .i64 r, .int .u64 0, .string ⟨#[]⟩, .int .u64 0], vr] w' R) (two : ∀ e w', R e w' → ∃ x y, e = .returned (.tuple #[.int .u64 x, .int .i64 y])) :
    Calls Tryz.prog 173 #[.agg #[.pointer (some ⟨hb, 0, none⟩), vw, .slice (some ⟨vb, 0, none⟩) 2 2, vr], .pointer (some ⟨cp, 0, none⟩)] W R := by
  have hB1 : Below W.heap.size W (W.alloc (.cells #[.pointer (some ⟨hb, 0, none⟩), vw, .slice (some ⟨vb, 0, none⟩) 2 2, vr] 103)) := (Below.refl _ W).alloc (Nat.le_refl _) _
  have f1 := World.alloc_heap_new W (.cells #[.pointer (some ⟨hb, 0, none⟩), vw, .slice (some ⟨vb, 0, none⟩) 2 2, vr] 103)
  have vl : vb < W.heap.size := cell_lt (hv 0)
  have T := hid two
  clear two
  go_enter Tryz.func173, Tryz.ntmps173
  go_upto_region 1 with fail
  generalize hW1 : W.alloc (.cells #[.pointer (some ⟨hb, 0, none⟩), vw, .slice (some ⟨vb, 0, none⟩) 2 2, vr] 103) = W1 at *
  have g1 := cell_keep hB1 hc
  have hv1 : ∀ k, W1.cell? ⟨vb, k, none⟩ = #[.int .i64 2, .int .i64 i, .int .u64 b0, .string s0, .int .u64 r0, .int .i64 2, .int .i64 j, .int .u64 b1, .string s1, .int .u64 r1][k]? := fun k => by rw [hB1.cell (p := ⟨vb, k, none⟩) vl]; exact hv k
  have hB2 : Below W1.heap.size W1 (W1.alloc (.cells #[.int .i64 0, .int .i64 1] 3)) := (Below.refl _ W1).alloc (Nat.le_refl _) _
  have e2 := World.cell?_alloc_new W1 #[.int .i64 0, .int .i64 1] 3
  have cA := are2_c (W1.alloc (.cells #[.int .i64 0, .int .i64 1] 3)) hb vb W1.heap.size 2 vw vr 2 2 2 (by decide) (by decide) (e2 0) (e2 1) (cell_keep hB2 (hv1 0)) (cell_keep hB2 (hv1 5))
  have e1 := fun k => cell_of_row _ W.heap.size k _ _ _ f1
  clear e2 f1
  have E1 : ∀ w', Below W1.heap.size W1 w' → (∀ k, w'.cell? ⟨W.heap.size, k, none⟩ = #[.pointer (some ⟨hb, 0, none⟩), vw, .slice (some ⟨vb, 0, none⟩) 2 2, vr][k]?) ∧ (∀ k, w'.cell? ⟨vb, k, none⟩ = #[.int .i64 2, .int .i64 i, .int .u64 b0, .string s0, .int .u64 r0, .int .i64 2, .int .i64 j, .int .u64 b1, .string s1, .int .u64 r1][k]?) ∧ w'.cell? ⟨cp, 0, none⟩ = some (.func (.func g) #[] #[]) := by
    intro w' hB
    have l1 : W.heap.size < W1.heap.size := cell_lt (e1 0)
    exact ⟨fun k => by rw [hB.cell (p := ⟨W.heap.size, k, none⟩) l1]; exact e1 k, fun k => by rw [hB.cell (p := ⟨vb, k, none⟩) (by have := hB1.size; show vb < _; omega)]; exact hv1 k, cell_keep hB g1⟩
  have H1 := hid hB1
  have H2 := hid hB2
  have HE := hid E1
  clear hv hc g1 hv1 hB2 E1 vl hB1 hW1
  go_upto_region 3 with (go_at_call 93; (with_reducible refine cA.mono ?_); rintro e W2 ⟨rfl, hB3⟩; clear cA)
  have hB4 := H2.out.trans (hB3.mono H2.out.size)
  obtain ⟨eC, eV, eP⟩ := HE.out W2 hB4
  have cx : ∀ w1, Below W2.heap.size W2 w1 → Calls Tryz.prog 130 #[.agg #[.pointer (some ⟨hb, 0, none⟩), vw, .slice (some ⟨vb, 0, none⟩) 2 2, vr], .int .i64 r] w1 R := fun w1 h1 => boxInt_g r (fun w' h => cb w' (H1.out.trans ((hB4.trans ((h1.trans (h.mono h1.size)).mono hB4.size)).mono H1.out.size))) T.out
  clear hB3 cb e1
  go_quiet ((go_at_fn g; exact Calls.quiet_of_same (cg _)))
  go_wp2_with (go_at_call 130; (with_reducible refine (cx _ (below_drewN _ _)).mono ?_); intro e w3 h3; (obtain ⟨x, y, rfl⟩ := T.out e w3 h3); clear cx)
  exact h3
end
end Go.Proofs.YthgcdohndchdkaaGreatDoor.W.Nu
/- Package ops: jobs on one whole number. -/
namespace Go.Proofs.YthgcdohndchdkaaGreatDoor.W.Nu
open Go.ChangeShapes Go.WideShapes Go.RowKit Go.Shelf
set_option linter.unusedVariables false
section
variable {W : World} {hb vb : Nat} {vw vr : Value} {R : Ending → World → Prop}
/-- ahead of a job of one value that was asked whether it is whole -/
theorem pre1 (i b0 r0 : Int) (s0 : ByteArray) (hv : ∀ k, W.cell? ⟨vb, k, none⟩ = #[.int .i64 2, .int .i64 i, .int .u64 b0, .string s0, .int .u64 r0][k]?) :
    let W1 := W.alloc (.cells #[.pointer (some ⟨hb, 0, none⟩), vw, .slice (some ⟨vb, 0, none⟩) 1 1, vr] 103)
    Below W.heap.size W W1 ∧ Below W1.heap.size W1 (W1.alloc (.cells #[.int .i64 0] 3)) ∧
    Calls Tryz.prog 93 #[.agg #[.pointer (some ⟨hb, 0, none⟩), vw, .slice (some ⟨vb, 0, none⟩) 1 1, vr], .int .i64 2, .slice (some ⟨W1.heap.size, 0, none⟩) 1 1] (W1.alloc (.cells #[.int .i64 0] 3)) (fun e w' => e = .returned (.bool true) ∧ Below (W1.alloc (.cells #[.int .i64 0] 3)).heap.size (W1.alloc (.cells #[.int .i64 0] 3)) w') ∧
    (∀ w', Below W1.heap.size W1 w' → (∀ k, w'.cell? ⟨W.heap.size, k, none⟩ = #[.pointer (some ⟨hb, 0, none⟩), vw, .slice (some ⟨vb, 0, none⟩) 1 1, vr][k]?) ∧ (∀ k, w'.cell? ⟨vb, k, none⟩ = #[.int .i64 2, .int .i64 i, .int .u64 b0, .string s0, .int .u64 r0][k]?)) := by
  intro W1
  have hB1 : Below W.heap.size W W1 := (Below.refl _ W).alloc (Nat.le_refl _) _
  have e1 := World.cell?_alloc_new W #[.pointer (some ⟨hb, 0, none⟩), vw, .slice (some ⟨vb, 0, none⟩) 1 1, vr] 103
  have vl : vb < W.heap.size := cell_lt (hv 0)
  have hv1 : ∀ k, W1.cell? ⟨vb, k, none⟩ = #[.int .i64 2, .int .i64 i, .int .u64 b0, .string s0, .int .u64 r0][k]? := fun k => by rw [hB1.cell (p := ⟨vb, k, none⟩) vl]; exact hv k
  have hB2 : Below W1.heap.size W1 (W1.alloc (.cells #[.int .i64 0] 3)) := (Below.refl _ W1).alloc (Nat.le_refl _) _
  have e2 := World.cell?_alloc_new W1 #[.int .i64 0] 3
  have l1 : W.heap.size < W1.heap.size := cell_lt (e1 0)
  refine ⟨hB1, hB2, are1_c _ hb vb W1.heap.size 1 vw vr 2 2 (by decide) (by decide) (e2 0) (cell_keep hB2 (hv1 0)), fun w' hB => ⟨fun k => ?_, fun k => ?_⟩⟩
  · rw [hB.cell (p := ⟨W.heap.size, k, none⟩) l1]; exact e1 k
  · rw [hB.cell (p := ⟨vb, k, none⟩) (by show vb < _; omega)]; exact hv1 k
set_option maxRecDepth 100000 in
theorem turned_g (i b0 r0 : Int) (s0 : ByteArray) (hv : ∀ k, W.cell? ⟨vb, k, none⟩ = #[.int .i64 2, .int .i64 i, .int .u64 b0, .string s0, .int .u64 r0][k]?)
    (cb : ∀ w', Below W.heap.size W w' → Calls Tryz.prog 8 #[.pointer (some ⟨hb, 0, none⟩), .agg #[.int .i64 2, .int .i64 (bits .xor .i64 (-1) i), .int .u64 0, .string ⟨#[]⟩, .int .u64 0], vr] w' R) (two : ∀ e w', R e w' → ∃ x y, e = .returned (.tuple #[.int .u64 x, .int .i64 y])) :
    Calls Tryz.prog 57 #[.agg #[.pointer (some ⟨hb, 0, none⟩), vw, .slice (some ⟨vb, 0, none⟩) 1 1, vr]] W R := by
  obtain ⟨h1, h2, cA, hE⟩ := pre1 (hb := hb) (vw := vw) (vr := vr) i b0 r0 s0 hv
  have T := hid two
  have H1 := hid h1
  have H2 := hid h2
  have HE := hid hE
  clear two h1 h2 hE hv
  go_enter Tryz.func57, Tryz.ntmps57
  go_upto_region 1 with fail
  generalize W.alloc (.cells #[.pointer (some ⟨hb, 0, none⟩), vw, .slice (some ⟨vb, 0, none⟩) 1 1, vr] 103) = W1 at *
  obtain ⟨eC1, -⟩ := HE.out W1 (Below.refl _ _)
  go_upto_region 3 with (go_at_call 93; (with_reducible refine cA.mono ?_); rintro e W2 ⟨rfl, hB3⟩; clear cA)
  have hB4 := H2.out.trans (hB3.mono H2.out.size)
  obtain ⟨eC, eV⟩ := HE.out W2 hB4
  have cx : ∀ w1, Below W2.heap.size W2 w1 → Calls Tryz.prog 130 #[.agg #[.pointer (some ⟨hb, 0, none⟩), vw, .slice (some ⟨vb, 0, none⟩) 1 1, vr], .int .i64 (bits .xor .i64 (-1) i)] w1 R := fun w1 h1 => boxInt_g _ (fun w' h => cb w' (H1.out.trans ((hB4.trans ((h1.trans (h.mono h1.size)).mono hB4.size)).mono H1.out.size))) T.out
  clear hB3 cb eC1
  go_region_with (go_at_call 130; (with_reducible refine (cx _ (Below.refl _ W2).drew).mono ?_); intro e w3 h3; (obtain ⟨x, y, rfl⟩ := T.out e w3 h3); clear cx)
  all_goals (
    simp only [Act.put, List.getElem_toArray, List.getElem_cons_zero, List.getElem_cons_succ, List.setIfInBounds_toArray, List.set_cons_zero, List.set_cons_succ]
    go_wp2
    exact h3)
theorem conv65 (w : World) : (convert 84 9 (.slice (some ⟨w.heap.size, 0, none⟩) 1 1)).run Tryz.prog (w.alloc (.cells #[.int .u8 65] 5)) = .ok (.string ⟨#[65]⟩) (w.alloc (.cells #[.int .u8 65] 5)) := by
  refine run_convert_bytes_back (P := Tryz.prog) _ 84 9 5 ⟨w.heap.size, 0, none⟩ 1 [65] Tryz.underlying84 Tryz.underlying5 Tryz.underlying9 (fun j hj => ?_)
  have h0 : j = 0 := by simp at hj; omega
  subst h0
  exact World.cell?_alloc_new w #[.int .u8 65] 5 0
set_option maxRecDepth 100000 in
theorem character65 (b0 r0 : Int) (s0 : ByteArray) (hv : ∀ k, W.cell? ⟨vb, k, none⟩ = #[.int .i64 2, .int .i64 65, .int .u64 b0, .string s0, .int .u64 r0][k]?)
    (cb : ∀ w', Below W.heap.size W w' → Calls Tryz.prog 8 #[.pointer (some ⟨hb, 0, none⟩), .agg #[.int .i64 4, .int .i64 0, .int .u64 0, .string ⟨#[65]⟩, .int .u64 0], vr] w' R) (two : ∀ e w', R e w' → ∃ x y, e = .returned (.tuple #[.int .u64 x, .int .i64 y])) :
    Calls Tryz.prog 66 #[.agg #[.pointer (some ⟨hb, 0, none⟩), vw, .slice (some ⟨vb, 0, none⟩) 1 1, vr]] W R := by
  obtain ⟨h1, h2, cA, hE⟩ := pre1 (hb := hb) (vw := vw) (vr := vr) 65 b0 r0 s0 hv
  have T := hid two
  have H1 := hid h1
  have H2 := hid h2
  have HE := hid hE
  clear two h1 h2 hE hv
  go_enter Tryz.func66, Tryz.ntmps66
  go_upto_region 1 with fail
  generalize W.alloc (.cells #[.pointer (some ⟨hb, 0, none⟩), vw, .slice (some ⟨vb, 0, none⟩) 1 1, vr] 103) = W1 at *
  obtain ⟨eC1, -⟩ := HE.out W1 (Below.refl _ _)
  go_upto_region 3 with (go_at_call 93; (with_reducible refine cA.mono ?_); rintro e W2 ⟨rfl, hB3⟩; clear cA)
  have hB4 := H2.out.trans (hB3.mono H2.out.size)
  obtain ⟨eC, eV⟩ := HE.out W2 hB4
  have cx : ∀ w1, Below W2.heap.size W2 w1 → Calls Tryz.prog 133 #[.agg #[.pointer (some ⟨hb, 0, none⟩), vw, .slice (some ⟨vb, 0, none⟩) 1 1, vr], .string ⟨#[65]⟩] w1 R := fun w1 h1 => boxText_g _ (fun w' h => cb w' (H1.out.trans ((hB4.trans ((h1.trans (h.mono h1.size)).mono hB4.size)).mono H1.out.size))) T.out
  clear hB3 cb eC1
  have hcv := conv65 W2
  have hB5 : Below W2.heap.size W2 (W2.alloc (.cells #[.int .u8 65] 5)) := (Below.refl _ W2).alloc (Nat.le_refl _) _
  have cy := cx _ hB5
  clear cx hB5
  go_wp2_with (go_at_call 133; (with_reducible refine cy.mono ?_); intro e w3 h3; (obtain ⟨x, y, rfl⟩ := T.out e w3 h3); clear cy)
  exact h3
end
end Go.Proofs.YthgcdohndchdkaaGreatDoor.W.Nu
/- Package ops: jobs that reckon with two numbers. -/
namespace Go.Proofs.YthgcdohndchdkaaGreatDoor.W.Nu
open Go.ChangeShapes Go.WideShapes Go.RowKit Go.Shelf
set_option linter.unusedVariables false
theorem reckons_c (g : Nat) (W : World) : Calls Tryz.prog 46 #[.func (.func g) #[] #[]] W fun e w' => e = .returned (.func (.func 96) #[] #[.pointer (some ⟨W.heap.size, 0, none⟩)]) ∧ w'.cell? ⟨W.heap.size, 0, none⟩ = some (.func (.func g) #[] #[]) ∧ Below W.heap.size W w' := by
  have hB : Below W.heap.size W (W.alloc (.cells #[.func (.func g) #[] #[]] 105)) := (Below.refl _ W).alloc (Nat.le_refl _) _
  have hc : (W.alloc (.cells #[.func (.func g) #[] #[]] 105)).cell? ⟨W.heap.size, 0, none⟩ = some (.func (.func g) #[] #[]) := by rw [World.cell?_alloc_new]; rfl
  have H := hid (And.intro hc hB)
  clear hc hB
  go_enter Tryz.func46, Tryz.ntmps46
  go_wp2
  go_ret
  exact ⟨rfl, H.out⟩
section
variable {W : World} {hb vb : Nat} {vw vr : Value} {R : Ending → World → Prop}
set_option maxRecDepth 100000 in
set_option maxHeartbeats 1000000 in
theorem reckons1_g (cp g : Nat) (eg : ∀ args w, (callFunc g args).run Tryz.prog w = .ok (.enter g args) w) (hc : W.cell? ⟨cp, 0, none⟩ = some (.func (.func g) #[] #[])) (a0 a1 xw : Bool) (x0 y0 x1 y1 xi xu : Int)
    (cn : ∀ w', Below W.heap.size W w' → Calls Tryz.prog 97 #[.agg #[.pointer (some ⟨hb, 0, none⟩), vw, .slice (some ⟨vb, 0, none⟩) 2 2, vr]] w' fun e w'' => e = .returned (.tuple #[.agg #[.bool a0, .int .i64 x0, .int .u64 y0], .agg #[.bool a1, .int .i64 x1, .int .u64 y1], .bool true]) ∧ Gr w' w'')
    (cg : ∀ w, Calls Tryz.prog g #[.agg #[.bool a0, .int .i64 x0, .int .u64 y0], .agg #[.bool a1, .int .i64 x1, .int .u64 y1]] w fun e w' => e = .returned (.tuple #[.agg #[.bool xw, .int .i64 xi, .int .u64 xu], .int .i64 0]) ∧ Gr w w')
    (cb : ∀ w', Below W.heap.size W w' → Calls Tryz.prog 98 #[.agg #[.pointer (some ⟨hb, 0, none⟩), vw, .slice (some ⟨vb, 0, none⟩) 2 2, vr], .agg #[.bool xw, .int .i64 xi, .int .u64 xu]] w' R) (two : ∀ e w', R e w' → ∃ x y, e = .returned (.tuple #[.int .u64 x, .int .i64 y])) :
    Calls Tryz.prog 96 #[.agg #[.pointer (some ⟨hb, 0, none⟩), vw, .slice (some ⟨vb, 0, none⟩) 2 2, vr], .pointer (some ⟨cp, 0, none⟩)] W R := by
  have hB1 : Below W.heap.size W (W.alloc (.cells #[.pointer (some ⟨hb, 0, none⟩), vw, .slice (some ⟨vb, 0, none⟩) 2 2, vr] 103)) := (Below.refl _ W).alloc (Nat.le_refl _) _
  have e1 := World.cell?_alloc_new W #[.pointer (some ⟨hb, 0, none⟩), vw, .slice (some ⟨vb, 0, none⟩) 2 2, vr] 103
  have T := hid two
  clear two
  have H1 := hid hB1
  have c1 := cn _ hB1
  clear cn
  replace hc := cell_keep hB1 hc
  clear hB1
  go_enter Tryz.func96, Tryz.ntmps96
  go_upto_region 1 with fail
  generalize W.alloc (.cells #[.pointer (some ⟨hb, 0, none⟩), vw, .slice (some ⟨vb, 0, none⟩) 2 2, vr] 103) = W1 at *
  go_upto_region 2 with (go_at_call 97; (with_reducible refine c1.mono ?_); rintro e W2 ⟨rfl, hg⟩; clear c1)
  have hB2 := hg.below
  have hB3 : Below W2.heap.size W2 ((W2.alloc (.cells #[.bool a0, .int .i64 x0, .int .u64 y0] 44)).alloc (.cells #[.bool a1, .int .i64 x1, .int .u64 y1] 44)) := ((Below.refl _ W2).alloc (Nat.le_refl _) _).alloc (by rw [World.size_alloc]; omega) _
  obtain ⟨fA, fB, -⟩ := (Gr.refl ((W2.alloc (.cells #[.bool a0, .int .i64 x0, .int .u64 y0] 44)).alloc (.cells #[.bool a1, .int .i64 x1, .int .u64 y1] 44))).two (Nat.zero_lt_succ _) (Nat.zero_lt_succ _)
  have hB4 := hB2.trans (hB3.mono hB2.size)
  have l1 : W.heap.size < W1.heap.size := cell_lt (e1 0)
  have eC : ∀ k, ((W2.alloc (.cells #[.bool a0, .int .i64 x0, .int .u64 y0] 44)).alloc (.cells #[.bool a1, .int .i64 x1, .int .u64 y1] 44)).cell? ⟨W.heap.size, k, none⟩ = #[.pointer (some ⟨hb, 0, none⟩), vw, .slice (some ⟨vb, 0, none⟩) 2 2, vr][k]? := fun k => by rw [hB4.cell (p := ⟨W.heap.size, k, none⟩) l1]; exact e1 k
  replace hc := cell_keep hB4 hc
  replace H1 := hid (H1.out.trans (hB4.mono H1.out.size))
  clear hg hB2 hB3 hB4 e1 l1
  generalize W2.heap.size + 1 = bB at *
  generalize W2.heap.size = bA at *
  generalize ((W2.alloc (.cells #[.bool a0, .int .i64 x0, .int .u64 y0] 44)).alloc (.cells #[.bool a1, .int .i64 x1, .int .u64 y1] 44)) = W3 at *
  go_upto_region 5 with (go_at_fn g; (with_reducible refine (cg _).mono ?_); rintro e W4 ⟨rfl, hg⟩; clear cg)
  have hB5 := hg.below
  have hB6 : Below W4.heap.size W4 (W4.alloc (.cells #[.bool xw, .int .i64 xi, .int .u64 xu] 44)) := (Below.refl _ W4).alloc (Nat.le_refl _) _
  have fN := World.cell?_alloc_new W4 #[.bool xw, .int .i64 xi, .int .u64 xu] 44
  have hB7 := hB5.trans (hB6.mono hB5.size)
  have l3 : W.heap.size < W3.heap.size := cell_lt (eC 0)
  have eD : ∀ k, (W4.alloc (.cells #[.bool xw, .int .i64 xi, .int .u64 xu] 44)).cell? ⟨W.heap.size, k, none⟩ = #[.pointer (some ⟨hb, 0, none⟩), vw, .slice (some ⟨vb, 0, none⟩) 2 2, vr][k]? := fun k => by rw [hB7.cell (p := ⟨W.heap.size, k, none⟩) l3]; exact eC k
  have cx := cb _ (H1.out.trans (hB7.mono H1.out.size))
  clear hg hB5 hB6 hB7 eC fA fB hc cb l3
  generalize W4.heap.size = bN at *
  generalize W4.alloc (.cells #[.bool xw, .int .i64 xi, .int .u64 xu] 44) = W5 at *
  go_wp2_with (go_at_call 98; (with_reducible refine cx.mono ?_); intro e w3 h3; (obtain ⟨x, y, rfl⟩ := T.out e w3 h3); clear cx)
  exact h3
/-- .. where what is reckoned is refused -/
theorem reckons1_e (cp g : Nat) (eg : ∀ args w, (callFunc g args).run Tryz.prog w = .ok (.enter g args) w) (hc : W.cell? ⟨cp, 0, none⟩ = some (.func (.func g) #[] #[])) (a0 a1 xw : Bool) (x0 y0 x1 y1 xi xu xe : Int) (he : (xe != 0) = true)
    (cn : ∀ w', Below W.heap.size W w' → Calls Tryz.prog 97 #[.agg #[.pointer (some ⟨hb, 0, none⟩), vw, .slice (some ⟨vb, 0, none⟩) 2 2, vr]] w' fun e w'' => e = .returned (.tuple #[.agg #[.bool a0, .int .i64 x0, .int .u64 y0], .agg #[.bool a1, .int .i64 x1, .int .u64 y1], .bool true]) ∧ Gr w' w'')
    (cg : ∀ w, Calls Tryz.prog g #[.agg #[.bool a0, .int .i64 x0, .int .u64 y0], .agg #[.bool a1, .int .i64 x1, .int .u64 y1]] w fun e w' => e = .returned (.tuple #[.agg #[.bool xw, .int .i64 xi, .int .u64 xu], .int .i64 xe]) ∧ Gr w w') :
    Calls Tryz.prog 96 #[.agg #[.pointer (some ⟨hb, 0, none⟩), vw, .slice (some ⟨vb, 0, none⟩) 2 2, vr], .pointer (some ⟨cp, 0, none⟩)] W (fun e w' => e = .returned (.tuple #[.int .u64 0, .int .i64 xe]) ∧ Below W.heap.size W w') := by
  have hB1 : Below W.heap.size W (W.alloc (.cells #[.pointer (some ⟨hb, 0, none⟩), vw, .slice (some ⟨vb, 0, none⟩) 2 2, vr] 103)) := (Below.refl _ W).alloc (Nat.le_refl _) _
  have e1 := World.cell?_alloc_new W #[.pointer (some ⟨hb, 0, none⟩), vw, .slice (some ⟨vb, 0, none⟩) 2 2, vr] 103
  have H1 := hid hB1
  have c1 := cn _ hB1
  clear cn
  replace hc := cell_keep hB1 hc
  clear hB1
  go_enter Tryz.func96, Tryz.ntmps96
  go_upto_region 1 with fail
  generalize W.alloc (.cells #[.pointer (some ⟨hb, 0, none⟩), vw, .slice (some ⟨vb, 0, none⟩) 2 2, vr] 103) = W1 at *
  go_upto_region 2 with (go_at_call 97; (with_reducible refine c1.mono ?_); rintro e W2 ⟨rfl, hg⟩; clear c1)
  have hB2 := hg.below
  have hB3 : Below W2.heap.size W2 ((W2.alloc (.cells #[.bool a0, .int .i64 x0, .int .u64 y0] 44)).alloc (.cells #[.bool a1, .int .i64 x1, .int .u64 y1] 44)) := ((Below.refl _ W2).alloc (Nat.le_refl _) _).alloc (by rw [World.size_alloc]; omega) _
  obtain ⟨fA, fB, -⟩ := (Gr.refl ((W2.alloc (.cells #[.bool a0, .int .i64 x0, .int .u64 y0] 44)).alloc (.cells #[.bool a1, .int .i64 x1, .int .u64 y1] 44))).two (Nat.zero_lt_succ _) (Nat.zero_lt_succ _)
  have hB4 := hB2.trans (hB3.mono hB2.size)
  replace hc := cell_keep hB4 hc
  replace H1 := hid (H1.out.trans (hB4.mono H1.out.size))
  clear hg hB2 hB3 hB4 e1
  generalize W2.heap.size + 1 = bB at *
  generalize W2.heap.size = bA at *
  generalize ((W2.alloc (.cells #[.bool a0, .int .i64 x0, .int .u64 y0] 44)).alloc (.cells #[.bool a1, .int .i64 x1, .int .u64 y1] 44)) = W3 at *
  go_upto_region 5 with (go_at_fn g; (with_reducible refine (cg _).mono ?_); rintro e W4 ⟨rfl, hg⟩; clear cg)
  have hB5 := hg.below
  have hB6 : Below W4.heap.size W4 (W4.alloc (.cells #[.bool xw, .int .i64 xi, .int .u64 xu] 44)) := (Below.refl _ W4).alloc (Nat.le_refl _) _
  have hB7 := hB5.trans (hB6.mono hB5.size)
  have fin := hid (H1.out.trans (hB7.mono H1.out.size))
  clear hg hB5 hB6 hB7 fA fB hc
  generalize W4.heap.size = bN at *
  generalize W4.alloc (.cells #[.bool xw, .int .i64 xi, .int .u64 xu] 44) = W5 at *
  go_wp2
  go_ret2
  exact ⟨rfl, fin.out⟩
end
end Go.Proofs.YthgcdohndchdkaaGreatDoor.W.Nu
/- Package ops: plus; operators as functions; Binary and Unary over their jobs. -/
namespace Go.Proofs.YthgcdohndchdkaaGreatDoor.W.Nu
open Go.ChangeShapes Go.WideShapes Go.RowKit Go.Shelf
set_option linter.unusedVariables false
theorem fn_eql (kf : Nat) (cs : Array Value) (w : World) : (binOp .eql 66 (.func (.func kf) #[] cs) .nilFunc).run Tryz.prog w = .ok (.bool false) w := by kernel_rfl
theorem fn_neq (kf : Nat) (cs : Array Value) (w : World) : (binOp .neq 66 (.func (.func kf) #[] cs) .nilFunc).run Tryz.prog w = .ok (.bool true) w := by kernel_rfl
theorem eg_reckons1 : ∀ args w, (callFunc 96 args).run Tryz.prog w = .ok (.enter 96 args) w := enters_of Tryz.func96 (by kernel_rfl) rfl
theorem eg_joins1 : ∀ args w, (callFunc 173 args).run Tryz.prog w = .ok (.enter 173 args) w := enters_of Tryz.func173 (by kernel_rfl) rfl
theorem eg_plus : ∀ args w, (callFunc 45 args).run Tryz.prog w = .ok (.enter 45 args) w := enters_of Tryz.func45 (by kernel_rfl) rfl
theorem eg_turned : ∀ args w, (callFunc 57 args).run Tryz.prog w = .ok (.enter 57 args) w := enters_of Tryz.func57 (by kernel_rfl) rfl
theorem eg_character : ∀ args w, (callFunc 66 args).run Tryz.prog w = .ok (.enter 66 args) w := enters_of Tryz.func66 (by kernel_rfl) rfl
section
variable {W : World} {hb vb : Nat} {vw vr : Value} {R : Ending → World → Prop}
set_option maxRecDepth 100000 in
theorem plus_g (k0 i0 b0 r0 k1 i1 b1 r1 : Int) (s0 s1 : ByteArray) (hk : ((k0 == 4) && (k1 == 4)) = false) (hv : ∀ k, W.cell? ⟨vb, k, none⟩ = #[.int .i64 k0, .int .i64 i0, .int .u64 b0, .string s0, .int .u64 r0, .int .i64 k1, .int .i64 i1, .int .u64 b1, .string s1, .int .u64 r1][k]?)
    (cr : ∀ (w' : World) (cp : Nat), Below W.heap.size W w' → w'.cell? ⟨cp, 0, none⟩ = some (.func (.func 95) #[] #[]) → Calls Tryz.prog 96 #[.agg #[.pointer (some ⟨hb, 0, none⟩), vw, .slice (some ⟨vb, 0, none⟩) 2 2, vr], .pointer (some ⟨cp, 0, none⟩)] w' R) (two : ∀ e w', R e w' → ∃ x y, e = .returned (.tuple #[.int .u64 x, .int .i64 y])) :
    Calls Tryz.prog 45 #[.agg #[.pointer (some ⟨hb, 0, none⟩), vw, .slice (some ⟨vb, 0, none⟩) 2 2, vr]] W R := by
  have hB1 : Below W.heap.size W (W.alloc (.cells #[.pointer (some ⟨hb, 0, none⟩), vw, .slice (some ⟨vb, 0, none⟩) 2 2, vr] 103)) := (Below.refl _ W).alloc (Nat.le_refl _) _
  have e1 := World.cell?_alloc_new W #[.pointer (some ⟨hb, 0, none⟩), vw, .slice (some ⟨vb, 0, none⟩) 2 2, vr] 103
  have vl : vb < W.heap.size := cell_lt (hv 0)
  have T := hid two
  have er := eg_reckons1
  clear two
  go_enter Tryz.func45, Tryz.ntmps45
  go_upto_region 1 with fail
  generalize W.alloc (.cells #[.pointer (some ⟨hb, 0, none⟩), vw, .slice (some ⟨vb, 0, none⟩) 2 2, vr] 103) = W1 at *
  have hv1 : ∀ k, W1.cell? ⟨vb, k, none⟩ = #[.int .i64 k0, .int .i64 i0, .int .u64 b0, .string s0, .int .u64 r0, .int .i64 k1, .int .i64 i1, .int .u64 b1, .string s1, .int .u64 r1][k]? := fun k => by rw [hB1.cell (p := ⟨vb, k, none⟩) vl]; exact hv k
  have hB2 : Below W1.heap.size W1 (W1.alloc (.cells #[.int .i64 0, .int .i64 1] 3)) := (Below.refl _ W1).alloc (Nat.le_refl _) _
  have e2 := World.cell?_alloc_new W1 #[.int .i64 0, .int .i64 1] 3
  have cA := are2_c (W1.alloc (.cells #[.int .i64 0, .int .i64 1] 3)) hb vb W1.heap.size 2 vw vr 4 k0 k1 (by decide) (by decide) (e2 0) (e2 1) (cell_keep hB2 (hv1 0)) (cell_keep hB2 (hv1 5))
  rw [hk] at cA
  clear e2 hv hv1 hk vl
  have l1 : W.heap.size < W1.heap.size := cell_lt (e1 0)
  have H2 := hid hB2
  have H1 := hid hB1
  clear hB2 hB1
  go_upto_region 3 with (go_at_call 93; (with_reducible refine cA.mono ?_); rintro e W2 ⟨rfl, hB3⟩; clear cA)
  have hB4 := H2.out.trans (hB3.mono H2.out.size)
  have eC : ∀ k, W2.cell? ⟨W.heap.size, k, none⟩ = #[.pointer (some ⟨hb, 0, none⟩), vw, .slice (some ⟨vb, 0, none⟩) 2 2, vr][k]? := fun k => by rw [hB4.cell (p := ⟨W.heap.size, k, none⟩) l1]; exact e1 k
  have H4 := hid (H1.out.trans (hB4.mono H1.out.size))
  have l2 : W.heap.size < W2.heap.size := by have := hB4.size; omega
  clear hB3 hB4 e1 H1 H2
  have cq : Calls Tryz.prog 46 #[.func (.func 95) #[] #[]] W2.drew fun e w' => e = .returned (.func (.func 96) #[] #[.pointer (some ⟨W2.heap.size, 0, none⟩)]) ∧ w'.cell? ⟨W2.heap.size, 0, none⟩ = some (.func (.func 95) #[] #[]) ∧ Below W2.drew.heap.size W2.drew w' := reckons_c 95 W2.drew
  have K2 : ∀ w', Below W2.drew.heap.size W2.drew w' → (∀ k, w'.cell? ⟨W.heap.size, k, none⟩ = #[.pointer (some ⟨hb, 0, none⟩), vw, .slice (some ⟨vb, 0, none⟩) 2 2, vr][k]?) ∧ (∀ cp, w'.cell? ⟨cp, 0, none⟩ = some (.func (.func 95) #[] #[]) → Calls Tryz.prog 96 #[.agg #[.pointer (some ⟨hb, 0, none⟩), vw, .slice (some ⟨vb, 0, none⟩) 2 2, vr], .pointer (some ⟨cp, 0, none⟩)] w' R) := by
    intro w' hB
    exact ⟨fun k => by rw [hB.cell (p := ⟨W.heap.size, k, none⟩) l2]; exact eC k, fun cp hc => cr w' cp (H4.out.trans ((show Below W2.heap.size W2 w' from ⟨hB.os, hB.tape, hB.output, hB.size, hB.block⟩).mono H4.out.size)) hc⟩
  have HK := hid K2
  clear K2 cr
  go_region_with (first | (go_at_call 46; (with_reducible refine cq.mono ?_); rintro e W3 ⟨rfl, hcp, hB5⟩; (obtain ⟨eD, cz⟩ := HK.out W3 hB5); (replace cz := cz _ hcp); clear cq hcp hB5) | (go_at_call 96; (with_reducible refine cz.mono ?_); intro e w3 h3; (obtain ⟨x, y, rfl⟩ := T.out e w3 h3); clear cz))
  all_goals (
    simp only [Act.put, List.getElem_toArray, List.getElem_cons_zero, List.getElem_cons_succ, List.setIfInBounds_toArray, List.set_cons_zero, List.set_cons_succ]
    go_wp2
    exact h3)
end
set_option maxRecDepth 100000 in
theorem bitwise_and (W : World) : Calls Tryz.prog 53 #[.string ⟨#[38]⟩] W fun e w' => ∃ cp, e = .returned (.func (.func 173) #[] #[.pointer (some ⟨cp, 0, none⟩)]) ∧ w'.cell? ⟨cp, 0, none⟩ = some (.func (.func 114) #[] #[]) ∧ Below W.heap.size W w' := by
  go_enter Tryz.func53, Tryz.ntmps53
  go_wp2_with (go_at_call 113; (with_reducible refine (joins_c _ _).mono ?_); rintro e w2 ⟨rfl, h⟩)
  go_ret
  exact ⟨_, rfl, h⟩
set_option maxRecDepth 100000 in
theorem binary_and (W : World) : Calls Tryz.prog 27 #[.string ⟨#[38]⟩] W fun e w' => ∃ cp, e = .returned (.func (.func 173) #[] #[.pointer (some ⟨cp, 0, none⟩)]) ∧ w'.cell? ⟨cp, 0, none⟩ = some (.func (.func 114) #[] #[]) ∧ Below W.heap.size W w' := by
  have hne := fn_neq
  go_enter Tryz.func27, Tryz.ntmps27
  go_wp2_with (go_at_call 53; (with_reducible refine (bitwise_and _).mono ?_); rintro e w2 ⟨cp, rfl, h⟩)
  go_ret
  exact ⟨_, rfl, h⟩
set_option maxRecDepth 100000 in
theorem bitwise_or (W : World) : Calls Tryz.prog 53 #[.string ⟨#[124]⟩] W fun e w' => ∃ cp, e = .returned (.func (.func 173) #[] #[.pointer (some ⟨cp, 0, none⟩)]) ∧ w'.cell? ⟨cp, 0, none⟩ = some (.func (.func 115) #[] #[]) ∧ Below W.heap.size W w' := by
  go_enter Tryz.func53, Tryz.ntmps53
  go_wp2_with (go_at_call 113; (with_reducible refine (joins_c _ _).mono ?_); rintro e w2 ⟨rfl, h⟩)
  go_ret
  exact ⟨_, rfl, h⟩
set_option maxRecDepth 100000 in
theorem binary_or (W : World) : Calls Tryz.prog 27 #[.string ⟨#[124]⟩] W fun e w' => ∃ cp, e = .returned (.func (.func 173) #[] #[.pointer (some ⟨cp, 0, none⟩)]) ∧ w'.cell? ⟨cp, 0, none⟩ = some (.func (.func 115) #[] #[]) ∧ Below W.heap.size W w' := by
  have hne := fn_neq
  go_enter Tryz.func27, Tryz.ntmps27
  go_wp2_with (go_at_call 53; (with_reducible refine (bitwise_or _).mono ?_); rintro e w2 ⟨cp, rfl, h⟩)
  go_ret
  exact ⟨_, rfl, h⟩
set_option maxRecDepth 100000 in
theorem bitwise_xor (W : World) : Calls Tryz.prog 53 #[.string ⟨#[94]⟩] W fun e w' => ∃ cp, e = .returned (.func (.func 173) #[] #[.pointer (some ⟨cp, 0, none⟩)]) ∧ w'.cell? ⟨cp, 0, none⟩ = some (.func (.func 116) #[] #[]) ∧ Below W.heap.size W w' := by
  go_enter Tryz.func53, Tryz.ntmps53
  go_wp2_with (go_at_call 113; (with_reducible refine (joins_c _ _).mono ?_); rintro e w2 ⟨rfl, h⟩)
  go_ret
  exact ⟨_, rfl, h⟩
set_option maxRecDepth 100000 in
theorem binary_xor (W : World) : Calls Tryz.prog 27 #[.string ⟨#[94]⟩] W fun e w' => ∃ cp, e = .returned (.func (.func 173) #[] #[.pointer (some ⟨cp, 0, none⟩)]) ∧ w'.cell? ⟨cp, 0, none⟩ = some (.func (.func 116) #[] #[]) ∧ Below W.heap.size W w' := by
  have hne := fn_neq
  go_enter Tryz.func27, Tryz.ntmps27
  go_wp2_with (go_at_call 53; (with_reducible refine (bitwise_xor _).mono ?_); rintro e w2 ⟨cp, rfl, h⟩)
  go_ret
  exact ⟨_, rfl, h⟩
theorem binary_plus (W : World) : Calls Tryz.prog 27 #[.string ⟨#[43]⟩] W fun e w' => e = .returned (.func (.func 45) #[] #[]) ∧ Below W.heap.size W w' := by
  have hne := fn_neq
  go_enter Tryz.func27, Tryz.ntmps27
  go_wp2
  go_ret
  exact ⟨rfl, Below.refl _ _⟩
theorem unary_turned (W : World) : Calls Tryz.prog 29 #[.string ⟨#[126]⟩] W fun e w' => e = .returned (.func (.func 57) #[] #[]) ∧ Below W.heap.size W w' := by
  go_enter Tryz.func29, Tryz.ntmps29
  go_wp2
  go_ret
  exact ⟨rfl, Below.refl _ _⟩
end Go.Proofs.YthgcdohndchdkaaGreatDoor.W.Nu
/- Package ops: Binary and Unary over their jobs. -/
namespace Go.Proofs.YthgcdohndchdkaaGreatDoor.W.Nu
open Go.ChangeShapes Go.WideShapes Go.RowKit Go.Shelf
set_option linter.unusedVariables false
set_option maxRecDepth 100000 in
theorem Binary_k (W : World) (hb : Nat) (op : ByteArray) (a b : Nat) (kf : Nat) (eg : ∀ args w, (callFunc kf args).run Tryz.prog w = .ok (.enter kf args) w) (fv : Value) (vr : Value) (rs : List Nat) (hr : WordsAt W vr rs) (hl : rs.length ≤ 999000) (k0 i0 b0 r0 : Int) (s0 : ByteArray) (k1 i1 b1 r1 : Int) (s1 : ByteArray) (lt0 : a < 18446744073709551616) (lt1 : b < 18446744073709551616)
    (cbin : Calls Tryz.prog 27 #[.string op] W fun e w' => ∃ cp, e = .returned (.func (.func kf) #[] #[.pointer (some ⟨cp, 0, none⟩)]) ∧ w'.cell? ⟨cp, 0, none⟩ = some fv ∧ Below W.heap.size W w')
    (cu0 : ∀ w', Below W.heap.size W w' → Calls Tryz.prog 18 #[.pointer (some ⟨hb, 0, none⟩), .int .u64 (a : Nat)] w' fun e w'' => e = .returned (.tuple #[.agg #[.int .i64 k0, .int .i64 i0, .int .u64 b0, .string s0, .int .u64 r0], .int .i64 0]) ∧ Below w'.heap.size w' w'') (cu1 : ∀ w', Below W.heap.size W w' → Calls Tryz.prog 18 #[.pointer (some ⟨hb, 0, none⟩), .int .u64 (b : Nat)] w' fun e w'' => e = .returned (.tuple #[.agg #[.int .i64 k1, .int .i64 i1, .int .u64 b1, .string s1, .int .u64 r1], .int .i64 0]) ∧ Below w'.heap.size w' w'')
    {R : Ending → World → Prop} (two : ∀ e w', R e w' → ∃ x y, e = .returned (.tuple #[.int .u64 x, .int .i64 y]))
    (cj : ∀ (w' : World) (cp wb vb : Nat) (vr' : Value), Below W.heap.size W w' → w'.cell? ⟨cp, 0, none⟩ = some fv → w'.cell? ⟨wb, 0, none⟩ = some (.int .u64 (a : Nat)) → w'.cell? ⟨wb, 1, none⟩ = some (.int .u64 (b : Nat)) → (∀ j, w'.cell? ⟨vb, j, none⟩ = #[.int .i64 k0, .int .i64 i0, .int .u64 b0, .string s0, .int .u64 r0, .int .i64 k1, .int .i64 i1, .int .u64 b1, .string s1, .int .u64 r1][j]?) → WordsAt w' vr' (rs ++ [a, b]) → Calls Tryz.prog kf #[.agg #[.pointer (some ⟨hb, 0, none⟩), .slice (some ⟨wb, 0, none⟩) 2 2, .slice (some ⟨vb, 0, none⟩) 2 2, vr'], .pointer (some ⟨cp, 0, none⟩)] w' R) :
    Calls Tryz.prog 9 #[.pointer (some ⟨hb, 0, none⟩), .string op, .int .u64 (a : Nat), .int .u64 (b : Nat), vr] W R := by
  obtain ⟨o1, cap1, hvr, -⟩ := id hr
  subst hvr
  have cd : ∀ (W1 : World) (cp : Nat), Below W.heap.size W W1 → W1.cell? ⟨cp, 0, none⟩ = some fv → Calls Tryz.prog 28 #[.pointer (some ⟨hb, 0, none⟩), .func (.func kf) #[] #[.pointer (some ⟨cp, 0, none⟩)], .slice (some ⟨W1.heap.size, 0, none⟩) 2 2, .slice o1 rs.length cap1] (W1.alloc (.cells #[.int .u64 (a : Nat), .int .u64 (b : Nat)] 22)) R := by
    intro W1 cp hB hc
    have hB1 : Below W1.heap.size W1 (W1.alloc (.cells #[.int .u64 (a : Nat), .int .u64 (b : Nat)] 22)) := (Below.refl _ W1).alloc (Nat.le_refl _) _
    have e1 := World.cell?_alloc_new W1 #[.int .u64 (a : Nat), .int .u64 (b : Nat)] 22
    have hB2 := hB.trans (hB1.mono hB.size)
    refine done2_k _ hb W1.heap.size a b kf eg cp _ rs (words_below hr hB2) hl k0 i0 b0 r0 s0 k1 i1 b1 r1 s1 (e1 0) (e1 1) lt0 lt1 (fun w' h => cu0 w' (hB2.trans (h.mono hB2.size))) (fun w' h => cu1 w' (hB2.trans (h.mono hB2.size))) two (fun w' vb vr' h hv hw => cj w' cp W1.heap.size vb vr' (hB2.trans (h.mono hB2.size)) (cell_keep h (cell_keep hB1 hc)) (cell_keep h (e1 0)) (cell_keep h (e1 1)) hv hw)
  have T := hid two
  clear two cj hr cu0 cu1 eg hl lt0 lt1
  have heq := fn_eql
  go_enter Tryz.func9, Tryz.ntmps9
  go_wp2_with (first | (go_at_call 27; (with_reducible refine cbin.mono ?_); rintro e W1 ⟨cp, rfl, hc, hB⟩; (replace cd := cd _ _ hB hc); clear cbin hB hc) | (go_at_call 28; (with_reducible refine cd.mono ?_); intro e w3 h3; (obtain ⟨x, y, rfl⟩ := T.out e w3 h3); clear cd))
  exact h3
set_option maxRecDepth 100000 in
theorem Binary_g (W : World) (hb : Nat) (op : ByteArray) (a b : Nat) (kf : Nat) (eg : ∀ args w, (callFunc kf args).run Tryz.prog w = .ok (.enter kf args) w) (vr : Value) (rs : List Nat) (hr : WordsAt W vr rs) (hl : rs.length ≤ 999000) (k0 i0 b0 r0 : Int) (s0 : ByteArray) (k1 i1 b1 r1 : Int) (s1 : ByteArray) (lt0 : a < 18446744073709551616) (lt1 : b < 18446744073709551616)
    (cbin : Calls Tryz.prog 27 #[.string op] W fun e w' => e = .returned (.func (.func kf) #[] #[]) ∧ Below W.heap.size W w')
    (cu0 : ∀ w', Below W.heap.size W w' → Calls Tryz.prog 18 #[.pointer (some ⟨hb, 0, none⟩), .int .u64 (a : Nat)] w' fun e w'' => e = .returned (.tuple #[.agg #[.int .i64 k0, .int .i64 i0, .int .u64 b0, .string s0, .int .u64 r0], .int .i64 0]) ∧ Below w'.heap.size w' w'') (cu1 : ∀ w', Below W.heap.size W w' → Calls Tryz.prog 18 #[.pointer (some ⟨hb, 0, none⟩), .int .u64 (b : Nat)] w' fun e w'' => e = .returned (.tuple #[.agg #[.int .i64 k1, .int .i64 i1, .int .u64 b1, .string s1, .int .u64 r1], .int .i64 0]) ∧ Below w'.heap.size w' w'')
    {R : Ending → World → Prop} (two : ∀ e w', R e w' → ∃ x y, e = .returned (.tuple #[.int .u64 x, .int .i64 y]))
    (cj : ∀ (w' : World) (wb vb : Nat) (vr' : Value), Below W.heap.size W w' → w'.cell? ⟨wb, 0, none⟩ = some (.int .u64 (a : Nat)) → w'.cell? ⟨wb, 1, none⟩ = some (.int .u64 (b : Nat)) → (∀ j, w'.cell? ⟨vb, j, none⟩ = #[.int .i64 k0, .int .i64 i0, .int .u64 b0, .string s0, .int .u64 r0, .int .i64 k1, .int .i64 i1, .int .u64 b1, .string s1, .int .u64 r1][j]?) → WordsAt w' vr' (rs ++ [a, b]) → Calls Tryz.prog kf #[.agg #[.pointer (some ⟨hb, 0, none⟩), .slice (some ⟨wb, 0, none⟩) 2 2, .slice (some ⟨vb, 0, none⟩) 2 2, vr']] w' R) :
    Calls Tryz.prog 9 #[.pointer (some ⟨hb, 0, none⟩), .string op, .int .u64 (a : Nat), .int .u64 (b : Nat), vr] W R := by
  obtain ⟨o1, cap1, hvr, -⟩ := id hr
  subst hvr
  have cd : ∀ (W1 : World), Below W.heap.size W W1 → Calls Tryz.prog 28 #[.pointer (some ⟨hb, 0, none⟩), .func (.func kf) #[] #[], .slice (some ⟨W1.heap.size, 0, none⟩) 2 2, .slice o1 rs.length cap1] (W1.alloc (.cells #[.int .u64 (a : Nat), .int .u64 (b : Nat)] 22)) R := by
    intro W1 hB 
    have hB1 : Below W1.heap.size W1 (W1.alloc (.cells #[.int .u64 (a : Nat), .int .u64 (b : Nat)] 22)) := (Below.refl _ W1).alloc (Nat.le_refl _) _
    have e1 := World.cell?_alloc_new W1 #[.int .u64 (a : Nat), .int .u64 (b : Nat)] 22
    have hB2 := hB.trans (hB1.mono hB.size)
    refine done2_g _ hb W1.heap.size a b kf eg _ rs (words_below hr hB2) hl k0 i0 b0 r0 s0 k1 i1 b1 r1 s1 (e1 0) (e1 1) lt0 lt1 (fun w' h => cu0 w' (hB2.trans (h.mono hB2.size))) (fun w' h => cu1 w' (hB2.trans (h.mono hB2.size))) two (fun w' vb vr' h hv hw => cj w' W1.heap.size vb vr' (hB2.trans (h.mono hB2.size)) (cell_keep h (e1 0)) (cell_keep h (e1 1)) hv hw)
  have T := hid two
  clear two cj hr cu0 cu1 eg hl lt0 lt1
  have heq := fn_eql
  go_enter Tryz.func9, Tryz.ntmps9
  go_wp2_with (first | (go_at_call 27; (with_reducible refine cbin.mono ?_); rintro e W1 ⟨rfl, hB⟩; (replace cd := cd _ hB); clear cbin hB) | (go_at_call 28; (with_reducible refine cd.mono ?_); intro e w3 h3; (obtain ⟨x, y, rfl⟩ := T.out e w3 h3); clear cd))
  exact h3
set_option maxRecDepth 100000 in
theorem Unary_g (W : World) (hb : Nat) (op : ByteArray) (a : Nat) (kf : Nat) (eg : ∀ args w, (callFunc kf args).run Tryz.prog w = .ok (.enter kf args) w) (vr : Value) (rs : List Nat) (hr : WordsAt W vr rs) (hl : rs.length ≤ 999000) (k0 i0 b0 r0 : Int) (s0 : ByteArray) (lt0 : a < 18446744073709551616)
    (cbin : Calls Tryz.prog 29 #[.string op] W fun e w' => e = .returned (.func (.func kf) #[] #[]) ∧ Below W.heap.size W w')
    (cu0 : ∀ w', Below W.heap.size W w' → Calls Tryz.prog 18 #[.pointer (some ⟨hb, 0, none⟩), .int .u64 (a : Nat)] w' fun e w'' => e = .returned (.tuple #[.agg #[.int .i64 k0, .int .i64 i0, .int .u64 b0, .string s0, .int .u64 r0], .int .i64 0]) ∧ Below w'.heap.size w' w'')
    {R : Ending → World → Prop} (two : ∀ e w', R e w' → ∃ x y, e = .returned (.tuple #[.int .u64 x, .int .i64 y]))
    (cj : ∀ (w' : World) (wb vb : Nat) (vr' : Value), Below W.heap.size W w' → w'.cell? ⟨wb, 0, none⟩ = some (.int .u64 (a : Nat)) → (∀ j, w'.cell? ⟨vb, j, none⟩ = #[.int .i64 k0, .int .i64 i0, .int .u64 b0, .string s0, .int .u64 r0][j]?) → WordsAt w' vr' (rs ++ [a]) → Calls Tryz.prog kf #[.agg #[.pointer (some ⟨hb, 0, none⟩), .slice (some ⟨wb, 0, none⟩) 1 1, .slice (some ⟨vb, 0, none⟩) 1 1, vr']] w' R) :
    Calls Tryz.prog 10 #[.pointer (some ⟨hb, 0, none⟩), .string op, .int .u64 (a : Nat), vr] W R := by
  obtain ⟨o1, cap1, hvr, -⟩ := id hr
  subst hvr
  have cd : ∀ (W1 : World), Below W.heap.size W W1 → Calls Tryz.prog 28 #[.pointer (some ⟨hb, 0, none⟩), .func (.func kf) #[] #[], .slice (some ⟨W1.heap.size, 0, none⟩) 1 1, .slice o1 rs.length cap1] (W1.alloc (.cells #[.int .u64 (a : Nat)] 22)) R := by
    intro W1 hB 
    have hB1 : Below W1.heap.size W1 (W1.alloc (.cells #[.int .u64 (a : Nat)] 22)) := (Below.refl _ W1).alloc (Nat.le_refl _) _
    have e1 := World.cell?_alloc_new W1 #[.int .u64 (a : Nat)] 22
    have hB2 := hB.trans (hB1.mono hB.size)
    refine done1_g _ hb W1.heap.size a kf eg _ rs (words_below hr hB2) hl k0 i0 b0 r0 s0 (e1 0) lt0 (fun w' h => cu0 w' (hB2.trans (h.mono hB2.size))) two (fun w' vb vr' h hv hw => cj w' W1.heap.size vb vr' (hB2.trans (h.mono hB2.size)) (cell_keep h (e1 0)) hv hw)
  have T := hid two
  clear two cj hr cu0 eg hl lt0
  have heq := fn_eql
  go_enter Tryz.func10, Tryz.ntmps10
  go_wp2_with (first | (go_at_call 29; (with_reducible refine cbin.mono ?_); rintro e W1 ⟨rfl, hB⟩; (replace cd := cd _ hB); clear cbin hB) | (go_at_call 28; (with_reducible refine cd.mono ?_); intro e w3 h3; (obtain ⟨x, y, rfl⟩ := T.out e w3 h3); clear cd))
  exact h3
end Go.Proofs.YthgcdohndchdkaaGreatDoor.W.Nu
