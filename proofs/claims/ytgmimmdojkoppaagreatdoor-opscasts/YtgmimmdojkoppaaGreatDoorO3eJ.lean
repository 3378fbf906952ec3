import Derived.Test.YtgmimmdojkoppaaGreatDoorO3cJ
/- Package ops: jobs that reckon with two numbers. -/
namespace Go.Proofs.YtgmimmdojkoppaaGreatDoor.W.Nu
open Go.ChangeShapes Go.WideShapes Go.RowKit Go.Shelf
set_option linter.unusedVariables false
theorem reckons_c (g : Nat) (W : World) : Calls Tryz.prog 52 #[.func (.func g) #[] #[]] W fun e w' => e = .returned (.func (.func 97) #[] #[.pointer (some ⟨W.heap.size, 0, none⟩)]) ∧ w'.cell? ⟨W.heap.size, 0, none⟩ = some (.func (.func g) #[] #[]) ∧ Below W.heap.size W w' := by
  have hB : Below W.heap.size W (W.alloc (.cells #[.func (.func g) #[] #[]] 93)) := (Below.refl _ W).alloc (Nat.le_refl _) _
  have hc : (W.alloc (.cells #[.func (.func g) #[] #[]] 93)).cell? ⟨W.heap.size, 0, none⟩ = some (.func (.func g) #[] #[]) := by rw [World.cell?_alloc_new]; rfl
  have H := hid (And.intro hc hB)
  clear hc hB
  go_enter Tryz.func52, Tryz.ntmps52
  go_wp2
  go_ret
  exact ⟨rfl, H.out⟩
section
variable {W : World} {hb vb : Nat} {vw vr : Value} {R : Ending → World → Prop}
set_option maxRecDepth 100000 in
set_option maxHeartbeats 1000000 in
theorem reckons1_g (cp g : Nat) (eg : ∀ args w, (callFunc g args).run Tryz.prog w = .ok (.enter g args) w) (hc : W.cell? ⟨cp, 0, none⟩ = some (.func (.func g) #[] #[])) (a0 a1 xw : Bool) (x0 y0 x1 y1 xi xu : Int)
    (cn : ∀ w', Below W.heap.size W w' → Calls Tryz.prog 98 #[.agg #[.pointer (some ⟨hb, 0, none⟩), vw, .slice (some ⟨vb, 0, none⟩) 2 2, vr]] w' fun e w'' => e = .returned (.tuple #[.agg #[.bool a0, .int .i64 x0, .int .u64 y0], .agg #[.bool a1, .int .i64 x1, .int .u64 y1], .bool true]) ∧ Gr w' w'')
    (cg : ∀ w, Calls Tryz.prog g #[.agg #[.bool a0, .int .i64 x0, .int .u64 y0], .agg #[.bool a1, .int .i64 x1, .int .u64 y1]] w fun e w' => e = .returned (.tuple #[.agg #[.bool xw, .int .i64 xi, .int .u64 xu], .int .i64 0]) ∧ Gr w w')
    (cb : ∀ w', Below W.heap.size W w' → Calls Tryz.prog 73 #[.agg #[.pointer (some ⟨hb, 0, none⟩), vw, .slice (some ⟨vb, 0, none⟩) 2 2, vr], .agg #[.bool xw, .int .i64 xi, .int .u64 xu]] w' R) (two : ∀ e w', R e w' → ∃ x y, e = .returned (.tuple #[.int .u64 x, .int .i64 y])) :
    Calls Tryz.prog 97 #[.agg #[.pointer (some ⟨hb, 0, none⟩), vw, .slice (some ⟨vb, 0, none⟩) 2 2, vr], .pointer (some ⟨cp, 0, none⟩)] W R := by
  have hB1 : Below W.heap.size W (W.alloc (.cells #[.pointer (some ⟨hb, 0, none⟩), vw, .slice (some ⟨vb, 0, none⟩) 2 2, vr] 83)) := (Below.refl _ W).alloc (Nat.le_refl _) _
  have e1 := World.cell?_alloc_new W #[.pointer (some ⟨hb, 0, none⟩), vw, .slice (some ⟨vb, 0, none⟩) 2 2, vr] 83
  have T := hid two
  clear two
  have H1 := hid hB1
  have c1 := cn _ hB1
  clear cn
  replace hc := cell_keep hB1 hc
  clear hB1
  go_enter Tryz.func97, Tryz.ntmps97
  go_upto_region 1 with fail
  generalize W.alloc (.cells #[.pointer (some ⟨hb, 0, none⟩), vw, .slice (some ⟨vb, 0, none⟩) 2 2, vr] 83) = W1 at *
  go_upto_region 2 with (go_at_call 98; (with_reducible refine c1.mono ?_); rintro e W2 ⟨rfl, hg⟩; clear c1)
  have hB2 := hg.below
  have hB3 : Below W2.heap.size W2 ((W2.alloc (.cells #[.bool a0, .int .i64 x0, .int .u64 y0] 30)).alloc (.cells #[.bool a1, .int .i64 x1, .int .u64 y1] 30)) := ((Below.refl _ W2).alloc (Nat.le_refl _) _).alloc (by rw [World.size_alloc]; omega) _
  obtain ⟨fA, fB, -⟩ := (Gr.refl ((W2.alloc (.cells #[.bool a0, .int .i64 x0, .int .u64 y0] 30)).alloc (.cells #[.bool a1, .int .i64 x1, .int .u64 y1] 30))).two (Nat.zero_lt_succ _) (Nat.zero_lt_succ _)
  have hB4 := hB2.trans (hB3.mono hB2.size)
  have l1 : W.heap.size < W1.heap.size := cell_lt (e1 0)
  have eC : ∀ k, ((W2.alloc (.cells #[.bool a0, .int .i64 x0, .int .u64 y0] 30)).alloc (.cells #[.bool a1, .int .i64 x1, .int .u64 y1] 30)).cell? ⟨W.heap.size, k, none⟩ = #[.pointer (some ⟨hb, 0, none⟩), vw, .slice (some ⟨vb, 0, none⟩) 2 2, vr][k]? := fun k => by rw [hB4.cell (p := ⟨W.heap.size, k, none⟩) l1]; exact e1 k
  replace hc := cell_keep hB4 hc
  replace H1 := hid (H1.out.trans (hB4.mono H1.out.size))
  clear hg hB2 hB3 hB4 e1 l1
  generalize W2.heap.size + 1 = bB at *
  generalize W2.heap.size = bA at *
  generalize ((W2.alloc (.cells #[.bool a0, .int .i64 x0, .int .u64 y0] 30)).alloc (.cells #[.bool a1, .int .i64 x1, .int .u64 y1] 30)) = W3 at *
  go_upto_region 5 with (go_at_fn g; (with_reducible refine (cg _).mono ?_); rintro e W4 ⟨rfl, hg⟩; clear cg)
  have hB5 := hg.below
  have hB6 : Below W4.heap.size W4 (W4.alloc (.cells #[.bool xw, .int .i64 xi, .int .u64 xu] 30)) := (Below.refl _ W4).alloc (Nat.le_refl _) _
  have fN := World.cell?_alloc_new W4 #[.bool xw, .int .i64 xi, .int .u64 xu] 30
  have hB7 := hB5.trans (hB6.mono hB5.size)
  have l3 : W.heap.size < W3.heap.size := cell_lt (eC 0)
  have eD : ∀ k, (W4.alloc (.cells #[.bool xw, .int .i64 xi, .int .u64 xu] 30)).cell? ⟨W.heap.size, k, none⟩ = #[.pointer (some ⟨hb, 0, none⟩), vw, .slice (some ⟨vb, 0, none⟩) 2 2, vr][k]? := fun k => by rw [hB7.cell (p := ⟨W.heap.size, k, none⟩) l3]; exact eC k
  have cx := cb _ (H1.out.trans (hB7.mono H1.out.size))
  clear hg hB5 hB6 hB7 eC fA fB hc cb l3
  generalize W4.heap.size = bN at *
  generalize W4.alloc (.cells #[.bool xw, .int .i64 xi, .int .u64 xu] 30) = W5 at *
  go_wp2_with (go_at_call 73; (with_reducible refine cx.mono ?_); intro e w3 h3; (obtain ⟨x, y, rfl⟩ := T.out e w3 h3); clear cx)
  exact h3
/-- .. where what is reckoned is refused -/
theorem reckons1_e (cp g : Nat) (eg : ∀ args w, (callFunc g args).run Tryz.prog w = .ok (.enter g args) w) (hc : W.cell? ⟨cp, 0, none⟩ = some (.func (.func g) #[] #[])) (a0 a1 xw : Bool) (x0 y0 x1 y1 xi xu xe : Int) (he : (xe != 0) = true)
    (cn : ∀ w', Below W.heap.size W w' → Calls Tryz.prog 98 #[.agg #[.pointer (some ⟨hb, 0, none⟩), vw, .slice (some ⟨vb, 0, none⟩) 2 2, vr]] w' fun e w'' => e = .returned (.tuple #[.agg #[.bool a0, .int .i64 x0, .int .u64 y0], .agg #[.bool a1, .int .i64 x1, .int .u64 y1], .bool true]) ∧ Gr w' w'')
    (cg : ∀ w, Calls Tryz.prog g #[.agg #[.bool a0, .int .i64 x0, .int .u64 y0], .agg #[.bool a1, .int .i64 x1, .int .u64 y1]] w fun e w' => e = .returned (.tuple #[.agg #[.bool xw, .int .i64 xi, .int .u64 xu], .int .i64 xe]) ∧ Gr w w') :
    Calls Tryz.prog 97 #[.agg #[.pointer (some ⟨hb, 0, none⟩), vw, .slice (some ⟨vb, 0, none⟩) 2 2, vr], .pointer (some ⟨cp, 0, none⟩)] W (fun e w' => e = .returned (.tuple #[.int .u64 0, .int .i64 xe]) ∧ Below W.heap.size W w') := by
  have hB1 : Below W.heap.size W (W.alloc (.cells #[.pointer (some ⟨hb, 0, none⟩), vw, .slice (some ⟨vb, 0, none⟩) 2 2, vr] 83)) := (Below.refl _ W).alloc (Nat.le_refl _) _
  have e1 := World.cell?_alloc_new W #[.pointer (some ⟨hb, 0, none⟩), vw, .slice (some ⟨vb, 0, none⟩) 2 2, vr] 83
  have H1 := hid hB1
  have c1 := cn _ hB1
  clear cn
  replace hc := cell_keep hB1 hc
  clear hB1
  go_enter Tryz.func97, Tryz.ntmps97
  go_upto_region 1 with fail
  generalize W.alloc (.cells #[.pointer (some ⟨hb, 0, none⟩), vw, .slice (some ⟨vb, 0, none⟩) 2 2, vr] 83) = W1 at *
  go_upto_region 2 with (go_at_call 98; (with_reducible refine c1.mono ?_); rintro e W2 ⟨rfl, hg⟩; clear c1)
  have hB2 := hg.below
  have hB3 : Below W2.heap.size W2 ((W2.alloc (.cells #[.bool a0, .int .i64 x0, .int .u64 y0] 30)).alloc (.cells #[.bool a1, .int .i64 x1, .int .u64 y1] 30)) := ((Below.refl _ W2).alloc (Nat.le_refl _) _).alloc (by rw [World.size_alloc]; omega) _
  obtain ⟨fA, fB, -⟩ := (Gr.refl ((W2.alloc (.cells #[.bool a0, .int .i64 x0, .int .u64 y0] 30)).alloc (.cells #[.bool a1, .int .i64 x1, .int .u64 y1] 30))).two (Nat.zero_lt_succ _) (Nat.zero_lt_succ _)
  have hB4 := hB2.trans (hB3.mono hB2.size)
  replace hc := cell_keep hB4 hc
  replace H1 := hid (H1.out.trans (hB4.mono H1.out.size))
  clear hg hB2 hB3 hB4 e1
  generalize W2.heap.size + 1 = bB at *
  generalize W2.heap.size = bA at *
  generalize ((W2.alloc (.cells #[.bool a0, .int .i64 x0, .int .u64 y0] 30)).alloc (.cells #[.bool a1, .int .i64 x1, .int .u64 y1] 30)) = W3 at *
  go_upto_region 5 with (go_at_fn g; (with_reducible refine (cg _).mono ?_); rintro e W4 ⟨rfl, hg⟩; clear cg)
  have hB5 := hg.below
  have hB6 : Below W4.heap.size W4 (W4.alloc (.cells #[.bool xw, .int .i64 xi, .int .u64 xu] 30)) := (Below.refl _ W4).alloc (Nat.le_refl _) _
  have hB7 := hB5.trans (hB6.mono hB5.size)
  have fin := hid (H1.out.trans (hB7.mono H1.out.size))
  clear hg hB5 hB6 hB7 fA fB hc
  generalize W4.heap.size = bN at *
  generalize W4.alloc (.cells #[.bool xw, .int .i64 xi, .int .u64 xu] 30) = W5 at *
  go_wp2
  go_ret2
  exact ⟨rfl, fin.out⟩
end
end Go.Proofs.YtgmimmdojkoppaaGreatDoor.W.Nu
