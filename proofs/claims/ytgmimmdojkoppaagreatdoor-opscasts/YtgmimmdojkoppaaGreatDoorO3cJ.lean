import Derived.Test.YtgmimmdojkoppaaGreatDoorO3bJ
/- Package ops: jobs on whole numbers, bit by bit. -/
namespace Go.Proofs.YtgmimmdojkoppaaGreatDoor.W.Nu
open Go.ChangeShapes Go.WideShapes Go.RowKit Go.Shelf
set_option linter.unusedVariables false
theorem bit1_c (i j : Int) (w : World) : Calls Tryz.prog 114 #[.int .i64 i, .int .i64 j] w fun e w' => e = .returned (.tuple #[.int .i64 (bits .and .i64 i j), .int .i64 0]) ∧ w' = w := by
  go_enter Tryz.func114, Tryz.ntmps114
  go_wp2
  go_ret2
  exact ⟨rfl, rfl⟩
theorem eg_bit1 : ∀ args w, (callFunc 114 args).run Tryz.prog w = .ok (.enter 114 args) w := enters_of Tryz.func114 (by kernel_rfl) rfl
theorem bit2_c (i j : Int) (w : World) : Calls Tryz.prog 115 #[.int .i64 i, .int .i64 j] w fun e w' => e = .returned (.tuple #[.int .i64 (bits .or .i64 i j), .int .i64 0]) ∧ w' = w := by
  go_enter Tryz.func115, Tryz.ntmps115
  go_wp2
  go_ret2
  exact ⟨rfl, rfl⟩
theorem eg_bit2 : ∀ args w, (callFunc 115 args).run Tryz.prog w = .ok (.enter 115 args) w := enters_of Tryz.func115 (by kernel_rfl) rfl
theorem bit3_c (i j : Int) (w : World) : Calls Tryz.prog 116 #[.int .i64 i, .int .i64 j] w fun e w' => e = .returned (.tuple #[.int .i64 (bits .xor .i64 i j), .int .i64 0]) ∧ w' = w := by
  go_enter Tryz.func116, Tryz.ntmps116
  go_wp2
  go_ret2
  exact ⟨rfl, rfl⟩
theorem eg_bit3 : ∀ args w, (callFunc 116 args).run Tryz.prog w = .ok (.enter 116 args) w := enters_of Tryz.func116 (by kernel_rfl) rfl
theorem joins_c (g : Nat) (W : World) : Calls Tryz.prog 113 #[.func (.func g) #[] #[]] W fun e w' => e = .returned (.func (.func 163) #[] #[.pointer (some ⟨W.heap.size, 0, none⟩)]) ∧ w'.cell? ⟨W.heap.size, 0, none⟩ = some (.func (.func g) #[] #[]) ∧ Below W.heap.size W w' := by
  have hB : Below W.heap.size W (W.alloc (.cells #[.func (.func g) #[] #[]] 144)) := (Below.refl _ W).alloc (Nat.le_refl _) _
  have hc : (W.alloc (.cells #[.func (.func g) #[] #[]] 144)).cell? ⟨W.heap.size, 0, none⟩ = some (.func (.func g) #[] #[]) := by rw [World.cell?_alloc_new]; rfl
  have H := hid (And.intro hc hB)
  clear hc hB
  go_enter Tryz.func113, Tryz.ntmps113
  go_wp2
  go_ret
  exact ⟨rfl, H.out⟩
theorem below_drewN (w : World) (m : Nat) : Below w.heap.size w (w.drewN m) := ⟨rfl, rfl, rfl, Nat.le_refl _, fun _ _ => rfl⟩
section
variable {W : World} {hb vb : Nat} {vw vr : Value} {R : Ending → World → Prop}
set_option maxRecDepth 100000 in
theorem joins1_g (cp g : Nat) (eg : ∀ args w, (callFunc g args).run Tryz.prog w = .ok (.enter g args) w) (i j r b0 r0 b1 r1 : Int) (s0 s1 : ByteArray) (hc : W.cell? ⟨cp, 0, none⟩ = some (.func (.func g) #[] #[])) (hv : ∀ k, W.cell? ⟨vb, k, none⟩ = #[.int .i64 2, .int .i64 i, .int .u64 b0, .string s0, .int .u64 r0, .int .i64 2, .int .i64 j, .int .u64 b1, .string s1, .int .u64 r1][k]?)
    (cg : ∀ w, Calls Tryz.prog g #[.int .i64 i, .int .i64 j] w fun e w' => e = .returned (.tuple #[.int .i64 r, .int .i64 0]) ∧ w' = w)
    (cb : ∀ w', Below W.heap.size W w' → Calls Tryz.prog 13 #[.pointer (some ⟨hb, 0, none⟩), .agg #[.int .i64 2, .int .i64 r, .int .u64 0, .string ⟨#[]⟩, .int .u64 0], vr] w' R) (two : ∀ e w', R e w' → ∃ x y, e = .returned (.tuple #[.int .u64 x, .int .i64 y])) :
    Calls Tryz.prog 163 #[.agg #[.pointer (some ⟨hb, 0, none⟩), vw, .slice (some ⟨vb, 0, none⟩) 2 2, vr], .pointer (some ⟨cp, 0, none⟩)] W R := by
  have hB1 : Below W.heap.size W (W.alloc (.cells #[.pointer (some ⟨hb, 0, none⟩), vw, .slice (some ⟨vb, 0, none⟩) 2 2, vr] 83)) := (Below.refl _ W).alloc (Nat.le_refl _) _
  have f1 := World.alloc_heap_new W (.cells #[.pointer (some ⟨hb, 0, none⟩), vw, .slice (some ⟨vb, 0, none⟩) 2 2, vr] 83)
  have vl : vb < W.heap.size := cell_lt (hv 0)
  have T := hid two
  clear two
  go_enter Tryz.func163, Tryz.ntmps163
  go_upto_region 1 with fail
  generalize hW1 : W.alloc (.cells #[.pointer (some ⟨hb, 0, none⟩), vw, .slice (some ⟨vb, 0, none⟩) 2 2, vr] 83) = W1 at *
  have g1 := cell_keep hB1 hc
  have hv1 : ∀ k, W1.cell? ⟨vb, k, none⟩ = #[.int .i64 2, .int .i64 i, .int .u64 b0, .string s0, .int .u64 r0, .int .i64 2, .int .i64 j, .int .u64 b1, .string s1, .int .u64 r1][k]? := fun k => by rw [hB1.cell (p := ⟨vb, k, none⟩) vl]; exact hv k
  have hB2 : Below W1.heap.size W1 (W1.alloc (.cells #[.int .i64 0, .int .i64 1] 3)) := (Below.refl _ W1).alloc (Nat.le_refl _) _
  have e2 := World.cell?_alloc_new W1 #[.int .i64 0, .int .i64 1] 3
  have cA := are2_c (W1.alloc (.cells #[.int .i64 0, .int .i64 1] 3)) hb vb W1.heap.size 2 vw vr 2 2 2 (by decide) (by decide) (e2 0) (e2 1) (cell_keep hB2 (hv1 0)) (cell_keep hB2 (hv1 5))
  have e1 := fun k => cell_of_row _ W.heap.size k _ _ _ f1
  clear e2 f1
  have E1 : ∀ w', Below W1.heap.size W1 w' → (∀ k, w'.cell? ⟨W.heap.size, k, none⟩ = #[.pointer (some ⟨hb, 0, none⟩), vw, .slice (some ⟨vb, 0, none⟩) 2 2, vr][k]?) ∧ (∀ k, w'.cell? ⟨vb, k, none⟩ = #[.int .i64 2, .int .i64 i, .int .u64 b0, .string s0, .int .u64 r0, .int .i64 2, .int .i64 j, .int .u64 b1, .string s1, .int .u64 r1][k]?) ∧ w'.cell? ⟨cp, 0, none⟩ = some (.func (.func g) #[] #[]) := by
    intro w' hB
    have l1 : W.heap.size < W1.heap.size := cell_lt (e1 0)
    exact ⟨fun k => by rw [hB.cell (p := ⟨W.heap.size, k, none⟩) l1]; exact e1 k, fun k => by rw [hB.cell (p := ⟨vb, k, none⟩) (by have := hB1.size; show vb < _; omega)]; exact hv1 k, cell_keep hB g1⟩
  have H1 := hid hB1
  have H2 := hid hB2
  have HE := hid E1
  clear hv hc g1 hv1 hB2 E1 vl hB1 hW1
  go_upto_region 3 with (go_at_call 70; (with_reducible refine cA.mono ?_); rintro e W2 ⟨rfl, hB3⟩; clear cA)
  have hB4 := H2.out.trans (hB3.mono H2.out.size)
  obtain ⟨eC, eV, eP⟩ := HE.out W2 hB4
  have cx : ∀ w1, Below W2.heap.size W2 w1 → Calls Tryz.prog 68 #[.agg #[.pointer (some ⟨hb, 0, none⟩), vw, .slice (some ⟨vb, 0, none⟩) 2 2, vr], .int .i64 r] w1 R := fun w1 h1 => boxInt_g r (fun w' h => cb w' (H1.out.trans ((hB4.trans ((h1.trans (h.mono h1.size)).mono hB4.size)).mono H1.out.size))) T.out
  clear hB3 cb e1
  go_quiet ((go_at_fn g; exact Calls.quiet_of_same (cg _)))
  go_wp2_with (go_at_call 68; (with_reducible refine (cx _ (below_drewN _ _)).mono ?_); intro e w3 h3; (obtain ⟨x, y, rfl⟩ := T.out e w3 h3); clear cx)
  exact h3
end
end Go.Proofs.YtgmimmdojkoppaaGreatDoor.W.Nu
