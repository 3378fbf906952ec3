import Derived.Test.YtdncdddaobemaaaGreatDoorBase14
import Derived.Test.YtdncdddaobemaaaGreatDoorBase13
import Derived.Test.YtdncdddaobemaaaGreatDoorBase0
/- Package ops: text, num and bits of numbers; Told of a number. -/
namespace Go.Proofs.YtdncdddaobemaaaGreatDoor.W.Nu
open Go.ChangeShapes Go.WideShapes Go.RowKit Go.Shelf
set_option linter.unusedVariables false
theorem eg_toText : ∀ args w, (callFunc 27 args).run Tryz.prog w = .ok (.enter 27 args) w := enters_of Tryz.func27 (by kernel_rfl) rfl
theorem eg_toNumber : ∀ args w, (callFunc 28 args).run Tryz.prog w = .ok (.enter 28 args) w := enters_of Tryz.func28 (by kernel_rfl) rfl
theorem eg_pattern : ∀ args w, (callFunc 33 args).run Tryz.prog w = .ok (.enter 33 args) w := enters_of Tryz.func33 (by kernel_rfl) rfl
theorem find_text (x5 x6 x7 x8 x9 : Nat) : findL (opsL x5 x6 x7 x8 x9) ⟨#[116, 101, 120, 116]⟩ = some (.agg #[.int .i64 1, .func (.func 27) #[] #[]]) := by kernel_rfl
theorem find_num (x5 x6 x7 x8 x9 : Nat) : findL (opsL x5 x6 x7 x8 x9) ⟨#[110, 117, 109]⟩ = some (.agg #[.int .i64 1, .func (.func 28) #[] #[]]) := by kernel_rfl
theorem find_bits (x5 x6 x7 x8 x9 : Nat) : findL (opsL x5 x6 x7 x8 x9) ⟨#[98, 105, 116, 115]⟩ = some (.agg #[.int .i64 1, .func (.func 33) #[] #[]]) := by kernel_rfl
set_option maxRecDepth 100000 in
theorem told_i (i : Int) (T : ByteArray) (W : World) (ct : ∀ w, Below W.heap.size W w → Calls Tryz.prog 47 #[.agg #[.bool true, .int .i64 i, .int .u64 0]] w fun e w' => e = .returned (.string T) ∧ Below w.heap.size w w') :
    Calls Tryz.prog 15 #[.agg #[.int .i64 2, .int .i64 i, .int .u64 0, .string ⟨#[]⟩, .int .u64 0]] W fun e w' => e = .returned (.tuple #[.string T, .int .i64 0]) ∧ Below W.heap.size W w' := by
  have hG : Gr W (W.alloc (.cells #[.int .i64 2, .int .i64 i, .int .u64 0, .string ⟨#[]⟩, .int .u64 0] 46)) := (Gr.refl W).alloc _
  have e1 := World.cell?_alloc_new W #[.int .i64 2, .int .i64 i, .int .u64 0, .string ⟨#[]⟩, .int .u64 0] 46
  go_enter Tryz.func15, Tryz.ntmps15
  go_upto_region 1 with fail
  generalize W.alloc (.cells #[.int .i64 2, .int .i64 i, .int .u64 0, .string ⟨#[]⟩, .int .u64 0] 46) = W1 at *
  go_upto_region 11 with (go_at_call 46; (with_reducible refine (number_i i 0 0 _ _).mono ?_); rintro e W2 ⟨rfl, hg⟩; (replace hG := hG.trans hg); clear hg e1)
  have e2 := World.cell?_alloc_new W2 #[.bool true, .int .i64 i, .int .u64 0] 24
  have hB := (hG.alloc (.cells #[.bool true, .int .i64 i, .int .u64 0] 24)).below
  have c1 := ct _ hB
  have HB := hid hB
  clear hB ct hG
  generalize W2.heap.size = b2 at *
  generalize W2.alloc (.cells #[.bool true, .int .i64 i, .int .u64 0] 24) = W3 at *
  go_wp2_with (go_at_call 47; (with_reducible refine c1.mono ?_); rintro e W4 ⟨rfl, hB4⟩; clear c1)
  go_ret2
  exact ⟨rfl, HB.out.trans (hB4.mono HB.out.size)⟩
set_option maxRecDepth 100000 in
theorem told_f (u : Int) (T : ByteArray) (W : World) (ct : ∀ w, Below W.heap.size W w → Calls Tryz.prog 47 #[.agg #[.bool false, .int .i64 0, .int .u64 u]] w fun e w' => e = .returned (.string T) ∧ Below w.heap.size w w') :
    Calls Tryz.prog 15 #[.agg #[.int .i64 3, .int .i64 0, .int .u64 u, .string ⟨#[]⟩, .int .u64 0]] W fun e w' => e = .returned (.tuple #[.string T, .int .i64 0]) ∧ Below W.heap.size W w' := by
  have hG : Gr W (W.alloc (.cells #[.int .i64 3, .int .i64 0, .int .u64 u, .string ⟨#[]⟩, .int .u64 0] 46)) := (Gr.refl W).alloc _
  have e1 := World.cell?_alloc_new W #[.int .i64 3, .int .i64 0, .int .u64 u, .string ⟨#[]⟩, .int .u64 0] 46
  go_enter Tryz.func15, Tryz.ntmps15
  go_upto_region 1 with fail
  generalize W.alloc (.cells #[.int .i64 3, .int .i64 0, .int .u64 u, .string ⟨#[]⟩, .int .u64 0] 46) = W1 at *
  go_upto_region 11 with (go_at_call 46; (with_reducible refine (number_f 0 u 0 _ _).mono ?_); rintro e W2 ⟨rfl, hg⟩; (replace hG := hG.trans hg); clear hg e1)
  have e2 := World.cell?_alloc_new W2 #[.bool false, .int .i64 0, .int .u64 u] 24
  have hB := (hG.alloc (.cells #[.bool false, .int .i64 0, .int .u64 u] 24)).below
  have c1 := ct _ hB
  have HB := hid hB
  clear hB ct hG
  generalize W2.heap.size = b2 at *
  generalize W2.alloc (.cells #[.bool false, .int .i64 0, .int .u64 u] 24) = W3 at *
  go_wp2_with (go_at_call 47; (with_reducible refine c1.mono ?_); rintro e W4 ⟨rfl, hB4⟩; clear c1)
  go_ret2
  exact ⟨rfl, HB.out.trans (hB4.mono HB.out.size)⟩
theorem told_n (a : Bool) (i u : Int) (sx : (a = true ∧ u = 0) ∨ (a = false ∧ i = 0)) (T : ByteArray) (W : World) (ct : ∀ w, Below W.heap.size W w → Calls Tryz.prog 47 #[.agg #[.bool a, .int .i64 i, .int .u64 u]] w fun e w' => e = .returned (.string T) ∧ Below w.heap.size w w') :
    Calls Tryz.prog 15 #[.agg #[.int .i64 (kV a), .int .i64 i, .int .u64 u, .string ⟨#[]⟩, .int .u64 0]] W fun e w' => e = .returned (.tuple #[.string T, .int .i64 0]) ∧ Below W.heap.size W w' := by
  rcases sx with ⟨rfl, rfl⟩ | ⟨rfl, rfl⟩
  · exact told_i i T W ct
  · exact told_f u T W ct
theorem Told_g (W : World) (hb a : Nat) (k i u : Int) (s T : ByteArray) (cu : Calls Tryz.prog 14 #[.pointer (some ⟨hb, 0, none⟩), .int .u64 (a : Nat)] W fun e w'' => e = .returned (.tuple #[.agg #[.int .i64 k, .int .i64 i, .int .u64 u, .string s, .int .u64 0], .int .i64 0]) ∧ Below W.heap.size W w'')
    (ct : ∀ w, Below W.heap.size W w → Calls Tryz.prog 15 #[.agg #[.int .i64 k, .int .i64 i, .int .u64 u, .string s, .int .u64 0]] w fun e w' => e = .returned (.tuple #[.string T, .int .i64 0]) ∧ Below w.heap.size w w') :
    Calls Tryz.prog 8 #[.pointer (some ⟨hb, 0, none⟩), .int .u64 (a : Nat)] W fun e w' => e = .returned (.tuple #[.string T, .int .i64 0]) ∧ Below W.heap.size W w' := by
  go_enter Tryz.func8, Tryz.ntmps8
  go_upto_region 2 with (go_at_call 14; (with_reducible refine cu.mono ?_); rintro e W1 ⟨rfl, hB⟩; clear cu)
  have h1 := hB.alloc hB.size (.cells #[.int .i64 k, .int .i64 i, .int .u64 u, .string s, .int .u64 0] 46)
  have e1 := World.cell?_alloc_new W1 #[.int .i64 k, .int .i64 i, .int .u64 u, .string s, .int .u64 0] 46
  have c1 := ct _ h1
  have H1 := hid h1
  clear hB ct h1
  generalize W1.heap.size = b1 at *
  generalize W1.alloc (.cells #[.int .i64 k, .int .i64 i, .int .u64 u, .string s, .int .u64 0] 46) = W2 at *
  go_wp2_with (go_at_call 15; (with_reducible refine c1.mono ?_); rintro e W3 ⟨rfl, hB2⟩; clear c1)
  go_ret2
  exact ⟨rfl, H1.out.trans (hB2.mono H1.out.size)⟩
section
variable {W : World} {hb vb : Nat} {vw vr : Value} {R : Ending → World → Prop}
/-- ahead of a job of one value that was asked for its kind -/
theorem pre1k (q kd i b0 r0 : Int) (s0 : ByteArray) (an : Bool) (han : (kd == q) = an) (hv : ∀ k, W.cell? ⟨vb, k, none⟩ = #[.int .i64 kd, .int .i64 i, .int .u64 b0, .string s0, .int .u64 r0][k]?) :
    let W1 := W.alloc (.cells #[.pointer (some ⟨hb, 0, none⟩), vw, .slice (some ⟨vb, 0, none⟩) 1 1, vr] 80)
    Below W.heap.size W W1 ∧ Below W1.heap.size W1 (W1.alloc (.cells #[.int .i64 0] 3)) ∧
    Calls Tryz.prog 58 #[.agg #[.pointer (some ⟨hb, 0, none⟩), vw, .slice (some ⟨vb, 0, none⟩) 1 1, vr], .int .i64 q, .slice (some ⟨W1.heap.size, 0, none⟩) 1 1] (W1.alloc (.cells #[.int .i64 0] 3)) (fun e w' => e = .returned (.bool an) ∧ Below (W1.alloc (.cells #[.int .i64 0] 3)).heap.size (W1.alloc (.cells #[.int .i64 0] 3)) w') ∧
    (∀ w', Below W1.heap.size W1 w' → (∀ k, w'.cell? ⟨W.heap.size, k, none⟩ = #[.pointer (some ⟨hb, 0, none⟩), vw, .slice (some ⟨vb, 0, none⟩) 1 1, vr][k]?) ∧ (∀ k, w'.cell? ⟨vb, k, none⟩ = #[.int .i64 kd, .int .i64 i, .int .u64 b0, .string s0, .int .u64 r0][k]?)) := by
  subst han
  intro W1
  have hB1 : Below W.heap.size W W1 := (Below.refl _ W).alloc (Nat.le_refl _) _
  have e1 := World.cell?_alloc_new W #[.pointer (some ⟨hb, 0, none⟩), vw, .slice (some ⟨vb, 0, none⟩) 1 1, vr] 80
  have vl : vb < W.heap.size := cell_lt (hv 0)
  have hv1 : ∀ k, W1.cell? ⟨vb, k, none⟩ = #[.int .i64 kd, .int .i64 i, .int .u64 b0, .string s0, .int .u64 r0][k]? := fun k => by rw [hB1.cell (p := ⟨vb, k, none⟩) vl]; exact hv k
  have hB2 : Below W1.heap.size W1 (W1.alloc (.cells #[.int .i64 0] 3)) := (Below.refl _ W1).alloc (Nat.le_refl _) _
  have e2 := World.cell?_alloc_new W1 #[.int .i64 0] 3
  have l1 : W.heap.size < W1.heap.size := cell_lt (e1 0)
  refine ⟨hB1, hB2, are1_c _ hb vb W1.heap.size 1 vw vr q kd (by decide) (by decide) (e2 0) (cell_keep hB2 (hv1 0)), fun w' hB => ⟨fun k => ?_, fun k => ?_⟩⟩
  · rw [hB.cell (p := ⟨W.heap.size, k, none⟩) l1]; exact e1 k
  · rw [hB.cell (p := ⟨vb, k, none⟩) (by show vb < _; omega)]; exact hv1 k
set_option maxRecDepth 100000 in
theorem toText_g (kd i b0 : Int) (T : ByteArray) (hk : (kd == 4) = false) (hv : ∀ k, W.cell? ⟨vb, k, none⟩ = #[.int .i64 kd, .int .i64 i, .int .u64 b0, .string ⟨#[]⟩, .int .u64 0][k]?)
    (ct : ∀ w, Below W.heap.size W w → Calls Tryz.prog 15 #[.agg #[.int .i64 kd, .int .i64 i, .int .u64 b0, .string ⟨#[]⟩, .int .u64 0]] w fun e w' => e = .returned (.tuple #[.string T, .int .i64 0]) ∧ Below w.heap.size w w')
    (cb : ∀ w', Below W.heap.size W w' → Calls Tryz.prog 11 #[.pointer (some ⟨hb, 0, none⟩), .agg #[.int .i64 4, .int .i64 0, .int .u64 0, .string T, .int .u64 0], vr] w' R) (two : ∀ e w', R e w' → ∃ x y, e = .returned (.tuple #[.int .u64 x, .int .i64 y])) :
    Calls Tryz.prog 27 #[.agg #[.pointer (some ⟨hb, 0, none⟩), vw, .slice (some ⟨vb, 0, none⟩) 1 1, vr]] W R := by
  obtain ⟨h1, h2, cA, hE⟩ := pre1k (hb := hb) (vw := vw) (vr := vr) 4 kd i b0 0 ⟨#[]⟩ false hk hv
  have TW := hid two
  (have H1 := hid h1); (have H2 := hid h2); (have HE := hid hE)
  clear two h1 h2 hE hv hk
  go_enter Tryz.func27, Tryz.ntmps27
  go_upto_region 1 with fail
  generalize W.alloc (.cells #[.pointer (some ⟨hb, 0, none⟩), vw, .slice (some ⟨vb, 0, none⟩) 1 1, vr] 80) = W1 at *
  obtain ⟨eC1, -⟩ := HE.out W1 (Below.refl _ _)
  go_upto_region 3 with (go_at_call 58; (with_reducible refine cA.mono ?_); rintro e W2 ⟨rfl, hB3⟩; clear cA)
  have hB4 := H2.out.trans (hB3.mono H2.out.size)
  obtain ⟨eC, eV⟩ := HE.out W2 hB4
  have ct2 := ct W2 (H1.out.trans (hB4.mono H1.out.size))
  have B4 := hid hB4
  clear hB3 hB4 eC1 ct
  go_upto_region 4 with (go_at_call 15; (with_reducible refine ct2.mono ?_); rintro e W3 ⟨rfl, hB5⟩; clear ct2)
  have hB6 := B4.out.trans (hB5.mono B4.out.size)
  clear eC eV
  obtain ⟨eC, -⟩ := HE.out W3 hB6
  have cx : Calls Tryz.prog 59 #[.agg #[.pointer (some ⟨hb, 0, none⟩), vw, .slice (some ⟨vb, 0, none⟩) 1 1, vr], .string T] W3 R := boxText_g _ (fun w' h => cb w' (H1.out.trans ((hB6.trans (h.mono hB6.size)).mono H1.out.size))) TW.out
  clear hB5 hB6 cb B4
  go_wp2_with (go_at_call 59; (with_reducible refine cx.mono ?_); intro e w3 h3; (obtain ⟨x, y, rfl⟩ := TW.out e w3 h3); clear cx)
  exact h3
set_option maxRecDepth 100000 in
theorem toNumber_g (T : ByteArray) (a : Bool) (i u : Int) (hv : ∀ k, W.cell? ⟨vb, k, none⟩ = #[.int .i64 4, .int .i64 0, .int .u64 0, .string T, .int .u64 0][k]?)
    (cp : ∀ w, Below W.heap.size W w → Calls Tryz.prog 60 #[.string T] w fun e w' => e = .returned (.tuple #[.agg #[.bool a, .int .i64 i, .int .u64 u], .int .i64 0]) ∧ Below w.heap.size w w')
    (cb : ∀ w', Below W.heap.size W w' → Calls Tryz.prog 61 #[.agg #[.pointer (some ⟨hb, 0, none⟩), vw, .slice (some ⟨vb, 0, none⟩) 1 1, vr], .agg #[.bool a, .int .i64 i, .int .u64 u]] w' R) (two : ∀ e w', R e w' → ∃ x y, e = .returned (.tuple #[.int .u64 x, .int .i64 y])) :
    Calls Tryz.prog 28 #[.agg #[.pointer (some ⟨hb, 0, none⟩), vw, .slice (some ⟨vb, 0, none⟩) 1 1, vr]] W R := by
  obtain ⟨h1, h2, cA, hE⟩ := pre1k (hb := hb) (vw := vw) (vr := vr) 4 4 0 0 0 T true (by decide) hv
  have TW := hid two
  (have H1 := hid h1); (have H2 := hid h2); (have HE := hid hE)
  clear two h1 h2 hE hv
  go_enter Tryz.func28, Tryz.ntmps28
  go_upto_region 1 with fail
  generalize W.alloc (.cells #[.pointer (some ⟨hb, 0, none⟩), vw, .slice (some ⟨vb, 0, none⟩) 1 1, vr] 80) = W1 at *
  obtain ⟨eC1, -⟩ := HE.out W1 (Below.refl _ _)
  go_upto_region 3 with (go_at_call 58; (with_reducible refine cA.mono ?_); rintro e W2 ⟨rfl, hB3⟩; clear cA)
  have hB4 := H2.out.trans (hB3.mono H2.out.size)
  obtain ⟨eC, eV⟩ := HE.out W2 hB4
  have cp2 := cp W2 (H1.out.trans (hB4.mono H1.out.size))
  have B4 := hid hB4
  clear hB3 hB4 eC1 cp
  go_upto_region 4 with (go_at_call 60; (with_reducible refine cp2.mono ?_); rintro e W3 ⟨rfl, hB5⟩; clear cp2)
  have hB6 := B4.out.trans (hB5.mono B4.out.size)
  have hB7 := hB6.alloc hB6.size (.cells #[.bool a, .int .i64 i, .int .u64 u] 24)
  clear eC eV
  obtain ⟨eC, -⟩ := HE.out _ hB7
  have e2 := World.cell?_alloc_new W3 #[.bool a, .int .i64 i, .int .u64 u] 24
  have cx := cb _ (H1.out.trans (hB7.mono H1.out.size))
  clear hB5 hB6 cb B4 hB7
  generalize W3.heap.size = b3 at *
  generalize W3.alloc (.cells #[.bool a, .int .i64 i, .int .u64 u] 24) = W4 at *
  go_wp2_with (go_at_call 61; (with_reducible refine cx.mono ?_); intro e w3 h3; (obtain ⟨x, y, rfl⟩ := TW.out e w3 h3); clear cx)
  exact h3
set_option maxRecDepth 100000 in
theorem pattern_g (u t : Int) (ht : IntKind.i64.wrap u = t) (hv : ∀ k, W.cell? ⟨vb, k, none⟩ = #[.int .i64 3, .int .i64 0, .int .u64 u, .string ⟨#[]⟩, .int .u64 0][k]?)
    (cb : ∀ w', Below W.heap.size W w' → Calls Tryz.prog 11 #[.pointer (some ⟨hb, 0, none⟩), .agg #[.int .i64 2, .int .i64 t, .int .u64 0, .string ⟨#[]⟩, .int .u64 0], vr] w' R) (two : ∀ e w', R e w' → ∃ x y, e = .returned (.tuple #[.int .u64 x, .int .i64 y])) :
    Calls Tryz.prog 33 #[.agg #[.pointer (some ⟨hb, 0, none⟩), vw, .slice (some ⟨vb, 0, none⟩) 1 1, vr]] W R := by
  obtain ⟨h1, h2, cA, hE⟩ := pre1k (hb := hb) (vw := vw) (vr := vr) 3 3 0 u 0 ⟨#[]⟩ true (by decide) hv
  have TW := hid two
  (have H1 := hid h1); (have H2 := hid h2); (have HE := hid hE)
  clear two h1 h2 hE hv
  subst ht
  go_enter Tryz.func33, Tryz.ntmps33
  go_upto_region 1 with fail
  generalize W.alloc (.cells #[.pointer (some ⟨hb, 0, none⟩), vw, .slice (some ⟨vb, 0, none⟩) 1 1, vr] 80) = W1 at *
  obtain ⟨eC1, -⟩ := HE.out W1 (Below.refl _ _)
  go_upto_region 3 with (go_at_call 58; (with_reducible refine cA.mono ?_); rintro e W2 ⟨rfl, hB3⟩; clear cA)
  have hB4 := H2.out.trans (hB3.mono H2.out.size)
  obtain ⟨eC, eV⟩ := HE.out W2 hB4
  have cx : ∀ w1, Below W2.heap.size W2 w1 → Calls Tryz.prog 56 #[.agg #[.pointer (some ⟨hb, 0, none⟩), vw, .slice (some ⟨vb, 0, none⟩) 1 1, vr], .int .i64 (IntKind.i64.wrap u)] w1 R := fun w1 h1 => boxInt_g _ (fun w' h => cb w' (H1.out.trans ((hB4.trans ((h1.trans (h.mono h1.size)).mono hB4.size)).mono H1.out.size))) TW.out
  clear hB3 cb eC1
  go_region_with (go_at_call 56; (with_reducible refine (cx _ (Below.refl _ W2).drew).mono ?_); intro e w3 h3; (obtain ⟨x, y, rfl⟩ := TW.out e w3 h3); clear cx)
  all_goals (
    simp only [Act.put, List.getElem_toArray, List.getElem_cons_zero, List.getElem_cons_succ, List.setIfInBounds_toArray, List.set_cons_zero, List.set_cons_succ]
    go_wp2
    exact h3)
set_option maxRecDepth 100000 in
theorem pattern_no (i : Int) (hv : ∀ k, W.cell? ⟨vb, k, none⟩ = #[.int .i64 2, .int .i64 i, .int .u64 0, .string ⟨#[]⟩, .int .u64 0][k]?) :
    Calls Tryz.prog 33 #[.agg #[.pointer (some ⟨hb, 0, none⟩), vw, .slice (some ⟨vb, 0, none⟩) 1 1, vr]] W fun e w' => e = .returned (.tuple #[.int .u64 0, .int .i64 51]) ∧ Below W.heap.size W w' := by
  obtain ⟨h1, h2, cA, hE⟩ := pre1k (hb := hb) (vw := vw) (vr := vr) 3 2 i 0 0 ⟨#[]⟩ false (by decide) hv
  (have H1 := hid h1); (have H2 := hid h2); (have HE := hid hE)
  clear h1 h2 hE hv
  go_enter Tryz.func33, Tryz.ntmps33
  go_upto_region 1 with fail
  generalize W.alloc (.cells #[.pointer (some ⟨hb, 0, none⟩), vw, .slice (some ⟨vb, 0, none⟩) 1 1, vr] 80) = W1 at *
  obtain ⟨eC1, -⟩ := HE.out W1 (Below.refl _ _)
  go_wp2_with (go_at_call 58; (with_reducible refine cA.mono ?_); rintro e W2 ⟨rfl, hB3⟩; clear cA)
  go_ret2
  have hB4 := H2.out.trans (hB3.mono H2.out.size)
  exact ⟨rfl, H1.out.trans (hB4.mono H1.out.size)⟩
set_option maxRecDepth 100000 in
theorem fromPattern_g (t x : Int) (x0 : 0 ≤ x) (x1 : x < 18446744073709551616) (ht : IntKind.u64.wrap t = x) (hv : ∀ k, W.cell? ⟨vb, k, none⟩ = #[.int .i64 2, .int .i64 t, .int .u64 0, .string ⟨#[]⟩, .int .u64 0][k]?) :
    Calls Tryz.prog 34 #[.agg #[.pointer (some ⟨hb, 0, none⟩), vw, .slice (some ⟨vb, 0, none⟩) 1 1, vr]] W fun e w' => e = .returned (.tuple #[.int .u64 (Go.Proofs.YtdncdddaobemaaaGreatDoor.W.fltW x), .int .i64 0]) ∧ Below W.heap.size W w' := by
  obtain ⟨h1, h2, cA, hE⟩ := pre1k (hb := hb) (vw := vw) (vr := vr) 2 2 t 0 0 ⟨#[]⟩ true (by decide) hv
  have cF := fun w => fromFloat_c x x0 x1 w
  generalize Go.Proofs.YtdncdddaobemaaaGreatDoor.W.fltW x = y at *
  subst ht
  (have H1 := hid h1); (have H2 := hid h2); (have HE := hid hE)
  clear h1 h2 hE hv x0 x1
  go_enter Tryz.func34, Tryz.ntmps34
  go_upto_region 1 with fail
  generalize W.alloc (.cells #[.pointer (some ⟨hb, 0, none⟩), vw, .slice (some ⟨vb, 0, none⟩) 1 1, vr] 80) = W1 at *
  obtain ⟨eC1, -⟩ := HE.out W1 (Below.refl _ _)
  go_upto_region 3 with (go_at_call 58; (with_reducible refine cA.mono ?_); rintro e W2 ⟨rfl, hB3⟩; clear cA)
  have hB4 := H2.out.trans (hB3.mono H2.out.size)
  obtain ⟨eC, eV⟩ := HE.out W2 hB4
  have HB := hid (H1.out.trans (hB4.mono H1.out.size))
  clear hB3 hB4 eC1
  go_wp2_with (go_at_call 22; (with_reducible refine (cF _).mono ?_); rintro e w' ⟨rfl, hw⟩; (have hw' := hw.symm); subst hw'; clear hw)
  go_ret2
  exact ⟨rfl, HB.out⟩
end
end Go.Proofs.YtdncdddaobemaaaGreatDoor.W.Nu
/- Plain facts on doubles by their exact numbers, for texts of numbers: a number that is some digits times a power of two is at most one pattern, and which one. No Go in sight. -/
namespace Go.Proofs.YtdncdddaobemaaaGreatDoor.W.Nu.Q
open Ieee

/-- a pattern without a sign, by its parts -/
theorem parts (a : Int) (h0 : 0 ≤ a) (h1 : a < 9223372036854775808) (hf : finB a = true) :
    ∃ m P : Nat, a = ((P * 4503599627370496 + m : Nat) : Int) ∧ m < 9007199254740992 ∧ (4503599627370496 ≤ m ∨ P = 0) ∧ P ≤ 2045 ∧ keyI a = ((m * 2 ^ P : Nat) : Int) := by
  obtain ⟨s, m, p, e⟩ := fin_read a hf
  obtain ⟨q1, q2, q3, q4, q5⟩ := read_number (by omega) e
  have hs : s = false := by
    cases s
    · rfl
    · simp only [if_true] at q5; omega
  subst hs
  refine ⟨m, (p + 1074).toNat, ?_, q1, by omega, by omega, ?_⟩
  · simp only [Bool.false_eq_true, if_false] at q5; omega
  · unfold keyI
    rw [e]
    simp only [key, signed_v, Bool.false_eq_true, if_false]
/-- and back -/
theorem parts_mk (m P : Nat) (h1 : m < 9007199254740992) (h2 : 4503599627370496 ≤ m ∨ P = 0) (h3 : P ≤ 2045) :
    finB ((P * 4503599627370496 + m : Nat) : Int) = true ∧ ((P * 4503599627370496 + m : Nat) : Int) < 9223372036854775808 ∧ keyI ((P * 4503599627370496 + m : Nat) : Int) = ((m * 2 ^ P : Nat) : Int) := by
  have hb : P * 4503599627370496 + m < 9218868437227405312 := by omega
  have hf : finB ((P * 4503599627370496 + m : Nat) : Int) = true := by
    simp only [finB, decide_eq_true_eq]; omega
  refine ⟨hf, by omega, ?_⟩
  obtain ⟨m', P', e, e1, e2, e3, e4⟩ := parts _ (by omega) (by omega) hf
  have hh : P = P' ∧ m = m' := by
    have e' : P * 4503599627370496 + m = P' * 4503599627370496 + m' := by omega
    omega
  rw [e4, hh.1, hh.2]
/-- parts of one number are the same -/
theorem parts_inj {m P m' P' : Nat} (h1 : m < 9007199254740992) (h1' : m' < 9007199254740992) (h2 : 4503599627370496 ≤ m ∨ P = 0) (h2' : 4503599627370496 ≤ m' ∨ P' = 0) (h : m * 2 ^ P = m' * 2 ^ P') : m = m' ∧ P = P' := by
  have go : ∀ {m P m' P' : Nat}, m < 9007199254740992 → (4503599627370496 ≤ m' ∨ P' = 0) → m * 2 ^ P = m' * 2 ^ P' → ¬ P < P' := by
    intro m P m' P' k1 k2 k hlt
    have e : 2 ^ P' = 2 ^ (P' - P) * 2 ^ P := by rw [← Nat.pow_add]; congr 1; omega
    rw [e, ← Nat.mul_assoc] at k
    have k3 : m = m' * 2 ^ (P' - P) := Nat.eq_of_mul_eq_mul_right (Nat.two_pow_pos P) k
    have k4 : 2 ^ 1 ≤ 2 ^ (P' - P) := Nat.pow_le_pow_right (by omega) (by omega)
    have k5 : m' * 2 ≤ m' * 2 ^ (P' - P) := Nat.mul_le_mul_left _ (by omega)
    omega
  have a := go h1 h2' h
  have b := go h1' h2 h.symm
  have e : P = P' := by omega
  subst e
  exact ⟨Nat.eq_of_mul_eq_mul_right (Nat.two_pow_pos P) h, rfl⟩
/-- finite patterns of one sign with one number are one -/
theorem key_inj (a b : Int) (a0 : 0 ≤ a) (a1 : a < 9223372036854775808) (b0 : 0 ≤ b) (b1 : b < 9223372036854775808) (fa : finB a = true) (fb : finB b = true) (h : keyI a = keyI b) : a = b := by
  obtain ⟨m, P, e, h1, h2, h3, h4⟩ := parts a a0 a1 fa
  obtain ⟨m', P', e', h1', h2', h3', h4'⟩ := parts b b0 b1 fb
  rw [h4, h4'] at h
  have h' : m * 2 ^ P = m' * 2 ^ P' := by exact_mod_cast h
  obtain ⟨rfl, rfl⟩ := parts_inj h1 h1' h2 h2' h'
  omega

/-- the pattern a, without a sign, is N times 2 to the low -/
def ValOf (a : Int) (N : Nat) (low : Int) : Prop :=
  0 ≤ a ∧ a < 9223372036854775808 ∧ finB a = true ∧ ∃ V : Nat, keyI a = V ∧ V * 2 ^ (-(low + 1074)).toNat = N * 2 ^ (low + 1074).toNat
theorem val_unique {a b : Int} {N : Nat} {low : Int} (ha : ValOf a N low) (hb : ValOf b N low) : a = b := by
  obtain ⟨a0, a1, fa, V, ka, va⟩ := ha
  obtain ⟨b0, b1, fb, U, kb, vb⟩ := hb
  have : V = U := Nat.eq_of_mul_eq_mul_right (Nat.two_pow_pos _) (va.trans vb.symm)
  exact key_inj a b a0 a1 b0 b1 fa fb (by rw [ka, kb, this])
/-- the same number, its digits shifted -/
theorem val_shift {a : Int} {N : Nat} {low : Int} (k : Nat) : ValOf a (N * 2 ^ k) low ↔ ValOf a N (low + k) := by
  unfold ValOf
  constructor
  · rintro ⟨a0, a1, fa, V, ka, va⟩
    refine ⟨a0, a1, fa, V, ka, ?_⟩
    have e1 : (-(low + 1074)).toNat + (low + k + 1074).toNat = (-(low + k + 1074)).toNat + (k + (low + 1074).toNat) := by omega
    apply Nat.eq_of_mul_eq_mul_right (Nat.two_pow_pos ((-(low + 1074)).toNat))
    have := congrArg (· * 2 ^ (-(low + k + 1074)).toNat) va
    calc V * 2 ^ (-(low + ↑k + 1074)).toNat * 2 ^ (-(low + 1074)).toNat = V * 2 ^ (-(low + 1074)).toNat * 2 ^ (-(low + k + 1074)).toNat := by rw [Nat.mul_assoc, Nat.mul_assoc, Nat.mul_comm (2 ^ _)]
      _ = N * 2 ^ k * 2 ^ (low + 1074).toNat * 2 ^ (-(low + k + 1074)).toNat := this
      _ = N * 2 ^ (low + ↑k + 1074).toNat * 2 ^ (-(low + 1074)).toNat := by
        rw [Nat.mul_assoc, Nat.mul_assoc, Nat.mul_assoc, ← Nat.pow_add, ← Nat.pow_add, ← Nat.pow_add]
        congr 2; omega
  · rintro ⟨a0, a1, fa, V, ka, va⟩
    refine ⟨a0, a1, fa, V, ka, ?_⟩
    apply Nat.eq_of_mul_eq_mul_right (Nat.two_pow_pos ((-(low + k + 1074)).toNat))
    have := congrArg (· * 2 ^ (-(low + 1074)).toNat) va
    calc V * 2 ^ (-(low + 1074)).toNat * 2 ^ (-(low + ↑k + 1074)).toNat = V * 2 ^ (-(low + k + 1074)).toNat * 2 ^ (-(low + 1074)).toNat := by rw [Nat.mul_assoc, Nat.mul_assoc, Nat.mul_comm (2 ^ _)]
      _ = N * 2 ^ (low + k + 1074).toNat * 2 ^ (-(low + 1074)).toNat := this
      _ = N * 2 ^ k * 2 ^ (low + 1074).toNat * 2 ^ (-(low + ↑k + 1074)).toNat := by
        rw [Nat.mul_assoc, Nat.mul_assoc, Nat.mul_assoc, ← Nat.pow_add, ← Nat.pow_add, ← Nat.pow_add]
        congr 2; omega
/-- where the highest digit of n times 2 to the low stands -/
theorem high_le {n : Nat} (hn : n ≠ 0) : 2 ^ n.log2 ≤ n ∧ n < 2 ^ (n.log2 + 1) := ⟨Nat.log2_self_le hn, Nat.lt_log2_self⟩
/-- a number of few digits, not too small and not too great, is a double: its pattern -/
theorem val_make (n : Nat) (low : Int) (hn : n ≠ 0) (h53 : n.log2 ≤ 52) (hlow : -1074 ≤ low) (hhigh : low + n.log2 ≤ 1023) :
    (low + n.log2 < -1022 → ValOf ((n * 2 ^ (low + 1074).toNat : Nat) : Int) n low) ∧
    (-1022 ≤ low + n.log2 → 4503599627370496 ≤ n * 2 ^ (52 - n.log2) ∧ n * 2 ^ (52 - n.log2) < 9007199254740992 ∧
      ((-1074 ≤ low + n.log2 - 52) → ValOf (((low + n.log2 + 1023).toNat * 4503599627370496 + (n * 2 ^ (52 - n.log2) - 4503599627370496) : Nat) : Int) n low)) := by
  obtain ⟨l1, l2⟩ := high_le hn
  have z : (-(low + 1074)).toNat = 0 := by omega
  constructor
  · intro h
    have b : n * 2 ^ (low + 1074).toNat < 4503599627370496 := by
      have b1 : n * 2 ^ (low + 1074).toNat < 2 ^ (n.log2 + 1) * 2 ^ (low + 1074).toNat := Nat.mul_lt_mul_of_pos_right l2 (Nat.two_pow_pos _)
      rw [← Nat.pow_add] at b1
      have b2 : 2 ^ (n.log2 + 1 + (low + 1074).toNat) ≤ 2 ^ 52 := Nat.pow_le_pow_right (by omega) (by omega)
      omega
    obtain ⟨f, g, k⟩ := parts_mk (n * 2 ^ (low + 1074).toNat) 0 (by omega) (Or.inr rfl) (by omega)
    rw [Nat.zero_mul, Nat.zero_add] at f g k
    exact ⟨by omega, g, f, _, k, by rw [z, Nat.pow_zero, Nat.mul_one, Nat.mul_one]⟩
  · intro h
    have b1 : 2 ^ n.log2 * 2 ^ (52 - n.log2) ≤ n * 2 ^ (52 - n.log2) := Nat.mul_le_mul_right _ l1
    have b2 : n * 2 ^ (52 - n.log2) < 2 ^ (n.log2 + 1) * 2 ^ (52 - n.log2) := Nat.mul_lt_mul_of_pos_right l2 (Nat.two_pow_pos _)
    rw [← Nat.pow_add, show n.log2 + (52 - n.log2) = 52 by omega] at b1
    rw [← Nat.pow_add, show n.log2 + 1 + (52 - n.log2) = 53 by omega] at b2
    have p52 : (2 : Nat) ^ 52 = 4503599627370496 := by decide
    have p53 : (2 : Nat) ^ 53 = 9007199254740992 := by decide
    rw [p52] at b1
    rw [p53] at b2
    have c1 := b1
    have c2 := b2
    refine ⟨c1, c2, fun hl => ?_⟩
    obtain ⟨f, g, k⟩ := parts_mk (n * 2 ^ (52 - n.log2)) (low + n.log2 + 1022).toNat c2 (Or.inl c1) (by omega)
    have e : (low + n.log2 + 1023).toNat * 4503599627370496 + (n * 2 ^ (52 - n.log2) - 4503599627370496) = (low + n.log2 + 1022).toNat * 4503599627370496 + n * 2 ^ (52 - n.log2) := by omega
    rw [e]
    refine ⟨by omega, g, f, _, k, ?_⟩
    have e3 : 52 - n.log2 + (low + n.log2 + 1022).toNat = (low + 1074).toNat := by omega
    rw [z, Nat.pow_zero, Nat.mul_one, Nat.mul_assoc, ← Nat.pow_add, e3]
/-- an odd number of many digits, too small or too great, is no double -/
theorem val_none (n : Nat) (low : Int) (hn : n % 2 = 1) (h : 52 < n.log2 ∨ low < -1074 ∨ 1023 < low + n.log2) (a : Int) : ¬ ValOf a n low := by
  rintro ⟨a0, a1, fa, V, ka, va⟩
  obtain ⟨m, P, e, h1, h2, h3, h4⟩ := parts a a0 a1 fa
  have hV : V = m * 2 ^ P := by rw [ka] at h4; exact_mod_cast h4
  have hn0 : n ≠ 0 := by omega
  obtain ⟨l1, l2⟩ := high_le hn0
  subst hV
  by_cases hl : low < -1074
  · have z : (low + 1074).toNat = 0 := by omega
    rw [z, Nat.pow_zero, Nat.mul_one] at va
    have : (2 : Nat) ^ (-(low + 1074)).toNat = 2 ^ ((-(low + 1074)).toNat - 1) * 2 := by rw [← Nat.pow_succ]; congr 1; omega
    rw [this, ← Nat.mul_assoc] at va
    omega
  · have z : (-(low + 1074)).toNat = 0 := by omega
    rw [z, Nat.pow_zero, Nat.mul_one] at va
    rcases h with h | h | h
    · -- an odd number times a power of two: the other one's factor divides
      have hP : P ≤ (low + 1074).toNat := by
        false_or_by_contra
        rename_i g
        have e2 : (2 : Nat) ^ P = 2 ^ (P - (low + 1074).toNat - 1) * 2 * 2 ^ (low + 1074).toNat := by rw [← Nat.pow_succ, ← Nat.pow_add]; congr 1; omega
        rw [e2, ← Nat.mul_assoc] at va
        have := Nat.eq_of_mul_eq_mul_right (Nat.two_pow_pos _) va
        rw [← Nat.mul_assoc] at this
        omega
      have e2 : (2 : Nat) ^ (low + 1074).toNat = 2 ^ ((low + 1074).toNat - P) * 2 ^ P := by rw [← Nat.pow_add]; congr 1; omega
      rw [e2, ← Nat.mul_assoc] at va
      have e3 := Nat.eq_of_mul_eq_mul_right (Nat.two_pow_pos _) va
      have e4 : n * 1 ≤ n * 2 ^ ((low + 1074).toNat - P) := Nat.mul_le_mul_left _ (Nat.two_pow_pos _)
      have e5 : 2 ^ 53 ≤ 2 ^ n.log2 := Nat.pow_le_pow_right (by omega) (by omega)
      have e6 : (2 : Nat) ^ 53 = 9007199254740992 := by decide
      omega
    · omega
    · have p53 : (2 : Nat) ^ 53 = 9007199254740992 := by decide
      have b0 : m < 2 ^ 53 := by omega
      have b1 : m * 2 ^ P < 2 ^ 53 * 2 ^ P := Nat.mul_lt_mul_of_pos_right b0 (Nat.two_pow_pos _)
      have b2 : 2 ^ n.log2 * 2 ^ (low + 1074).toNat ≤ n * 2 ^ (low + 1074).toNat := Nat.mul_le_mul_right _ l1
      rw [← Nat.pow_add] at b1 b2
      have b3 : 2 ^ (53 + P) ≤ 2 ^ (n.log2 + (low + 1074).toNat) := Nat.pow_le_pow_right (by omega) (by omega)
      omega
end Go.Proofs.YtdncdddaobemaaaGreatDoor.W.Nu.Q
/- Plain facts on decimal digits: a number's digits as bytes, and the number that digits are. No Go in sight. -/
namespace Go.Proofs.YtdncdddaobemaaaGreatDoor.W.Nu.Q

/-- a digit's byte -/
def dig (d : Nat) : UInt8 := UInt8.ofNat (48 + d)
theorem dig_toNat (d : Nat) (h : d < 10) : (dig d).toNat = 48 + d := by
  unfold dig
  rw [UInt8.toNat_ofNat']
  omega
/-- a number in decimal digits -/
def decL (n : Nat) : List UInt8 := if n < 10 then [dig n] else decL (n / 10) ++ [dig (n % 10)]
  termination_by n
  decreasing_by omega
theorem decL_small {n : Nat} (h : n < 10) : decL n = [dig n] := by rw [decL, if_pos h]
theorem decL_step {n : Nat} (h : ¬ n < 10) : decL n = decL (n / 10) ++ [dig (n % 10)] := by rw [decL, if_neg h]
/-- the number that digits are -/
def valD (l : List UInt8) : Nat := l.foldl (fun a c => 10 * a + (c.toNat - 48)) 0
theorem valD_snoc (l : List UInt8) (c : UInt8) : valD (l ++ [c]) = 10 * valD l + (c.toNat - 48) := by simp [valD, List.foldl_append]
theorem valD_dec (n : Nat) : valD (decL n) = n := by
  induction n using Nat.strongRecOn with
  | _ n ih =>
    by_cases h : n < 10
    · rw [decL_small h]
      simp only [valD, List.foldl_cons, List.foldl_nil, dig_toNat n h]
      omega
    · rw [decL_step h, valD_snoc, ih _ (by omega), dig_toNat _ (by omega)]
      omega
/-- digits, the first no nought unless it is the only one -/
def goodD (l : List UInt8) : Prop := l ≠ [] ∧ (∀ c ∈ l, 48 ≤ c.toNat ∧ c.toNat ≤ 57) ∧ (l.head? = some (dig 0) → l.length = 1)
theorem decL_digits (n : Nat) : ∀ c ∈ decL n, 48 ≤ c.toNat ∧ c.toNat ≤ 57 := by
  induction n using Nat.strongRecOn with
  | _ n ih =>
    intro c hc
    by_cases h : n < 10
    · rw [decL_small h] at hc
      simp only [List.mem_singleton] at hc
      rw [hc, dig_toNat n h]; omega
    · rw [decL_step h, List.mem_append] at hc
      rcases hc with hc | hc
      · exact ih _ (by omega) c hc
      · simp only [List.mem_singleton] at hc
        rw [hc, dig_toNat _ (by omega)]; omega
theorem decL_ne (n : Nat) : decL n ≠ [] := by
  by_cases h : n < 10
  · rw [decL_small h]; simp
  · rw [decL_step h]; simp
theorem decL_head (n : Nat) (hn : n ≠ 0) : (decL n).head? ≠ some (dig 0) := by
  induction n using Nat.strongRecOn with
  | _ n ih =>
    by_cases h : n < 10
    · rw [decL_small h]
      simp only [List.head?_cons, ne_eq, Option.some.injEq]
      intro e
      have := congrArg UInt8.toNat e
      rw [dig_toNat n h, dig_toNat 0 (by omega)] at this
      omega
    · have g := ih (n / 10) (by omega) (by omega)
      rw [decL_step h]
      cases e : decL (n / 10) with
      | nil => exact absurd e (decL_ne _)
      | cons a l => rw [e] at g; simpa using g
theorem decL_good (n : Nat) : goodD (decL n) := by
  refine ⟨decL_ne n, decL_digits n, fun h => ?_⟩
  by_cases hn : n = 0
  · subst hn; rw [decL_small (by omega)]; rfl
  · exact absurd h (decL_head n hn)
theorem decL_length (n k : Nat) (h : n < 10 ^ k) (hk : 0 < k) : (decL n).length ≤ k := by
  induction k generalizing n with
  | zero => omega
  | succ k ih =>
    by_cases hs : n < 10
    · rw [decL_small hs]; simp
    · rw [decL_step hs, List.length_append]
      have hk' : 0 < k := by
        rcases Nat.eq_zero_or_pos k with e | e
        · subst e; simp at h; omega
        · exact e
      have := ih (n / 10) (by rw [Nat.pow_succ] at h; omega) hk'
      simp only [List.length_cons, List.length_nil]
      omega
theorem foldD (l : List UInt8) (a : Nat) : l.foldl (fun a c => 10 * a + (c.toNat - 48)) a = a * 10 ^ l.length + valD l := by
  induction l generalizing a with
  | nil => simp [valD]
  | cons c l ih =>
    have e : valD (c :: l) = l.foldl (fun a c => 10 * a + (c.toNat - 48)) (10 * 0 + (c.toNat - 48)) := rfl
    rw [List.foldl_cons, ih, e, ih, List.length_cons, Nat.pow_succ, Nat.add_mul, Nat.mul_zero, Nat.zero_add, Nat.add_assoc]
    congr 1
    rw [Nat.mul_comm 10 a, Nat.mul_assoc, Nat.mul_comm 10]
theorem valD_cons (c : UInt8) (l : List UInt8) : valD (c :: l) = (c.toNat - 48) * 10 ^ l.length + valD l := by
  have e : valD (c :: l) = l.foldl (fun a c => 10 * a + (c.toNat - 48)) (10 * 0 + (c.toNat - 48)) := rfl
  rw [e, foldD, Nat.mul_zero, Nat.zero_add]
theorem valD_le (l : List UInt8) (h : ∀ c ∈ l, 48 ≤ c.toNat ∧ c.toNat ≤ 57) : valD l < 10 ^ l.length := by
  induction l with
  | nil => simp [valD]
  | cons c l ih =>
    rw [valD_cons, List.length_cons, Nat.pow_succ]
    have h1 := h c (by simp)
    have h2 := ih (fun x hx => h x (by simp [hx]))
    have h3 : (c.toNat - 48) * 10 ^ l.length ≤ 9 * 10 ^ l.length := Nat.mul_le_mul_right _ (by omega)
    omega
end Go.Proofs.YtdncdddaobemaaaGreatDoor.W.Nu.Q
/- Plain facts on hexadecimal digits, and on the text of a double: what it says is the double's exact number. No Go in sight. -/
namespace Go.Proofs.YtdncdddaobemaaaGreatDoor.W.Nu.Q

/-- a hexadecimal digit's byte, and a byte's digit (-1: none) -/
def hexd (d : Nat) : UInt8 := if d < 10 then UInt8.ofNat (48 + d) else UInt8.ofNat (87 + d)
def hexV (c : UInt8) : Int := if 48 ≤ c.toNat ∧ c.toNat ≤ 57 then c.toNat - 48 else if 97 ≤ c.toNat ∧ c.toNat ≤ 102 then c.toNat - 87 else -1
theorem hexd_toNat (d : Nat) (h : d < 16) : (hexd d).toNat = if d < 10 then 48 + d else 87 + d := by
  unfold hexd
  split
  · rw [UInt8.toNat_ofNat']; omega
  · rw [UInt8.toNat_ofNat']; omega
theorem hexV_hexd (d : Nat) (h : d < 16) : hexV (hexd d) = d := by
  unfold hexV
  rw [hexd_toNat d h]
  by_cases g : d < 10
  · rw [if_pos g, if_pos (by omega)]; omega
  · rw [if_neg g, if_neg (by omega), if_pos (by omega)]; omega
theorem hexV_range (c : UInt8) : -1 ≤ hexV c ∧ hexV c < 16 := by unfold hexV; split <;> (try split) <;> omega
/-- the number that hexadecimal digits are -/
def valH (l : List UInt8) : Nat := l.foldl (fun a c => 16 * a + (hexV c).toNat) 0
theorem foldH (l : List UInt8) (a : Nat) : l.foldl (fun a c => 16 * a + (hexV c).toNat) a = a * 16 ^ l.length + valH l := by
  induction l generalizing a with
  | nil => simp [valH]
  | cons c l ih =>
    have e : valH (c :: l) = l.foldl (fun a c => 16 * a + (hexV c).toNat) (16 * 0 + (hexV c).toNat) := rfl
    rw [List.foldl_cons, ih, e, ih, List.length_cons, Nat.pow_succ, Nat.add_mul, Nat.mul_zero, Nat.zero_add, Nat.add_assoc]
    congr 1
    rw [Nat.mul_comm 16 a, Nat.mul_assoc, Nat.mul_comm 16]
theorem valH_cons (c : UInt8) (l : List UInt8) : valH (c :: l) = (hexV c).toNat * 16 ^ l.length + valH l := by
  have e : valH (c :: l) = l.foldl (fun a c => 16 * a + (hexV c).toNat) (16 * 0 + (hexV c).toNat) := rfl
  rw [e, foldH, Nat.mul_zero, Nat.zero_add]
theorem valH_append (l m : List UInt8) : valH (l ++ m) = valH l * 16 ^ m.length + valH m := by
  unfold valH
  rw [List.foldl_append, foldH]
  rfl
theorem valH_snoc (l : List UInt8) (c : UInt8) : valH (l ++ [c]) = 16 * valH l + (hexV c).toNat := by
  rw [valH_append]
  simp [valH]
  omega
/-- the digits behind the point: k at most -/
def fracL : Nat → Nat → List UInt8
  | 0, _ => []
  | k + 1, f => if f = 0 then [] else hexd (f / 281474976710656) :: fracL k (f % 281474976710656 * 16)
theorem pow16 (k : Nat) : 16 ^ k = 2 ^ (4 * k) := by rw [Nat.pow_mul]
theorem fracL_val (k f : Nat) (hk : k ≤ 13) (h1 : f < 4503599627370496) (h2 : f % 2 ^ (52 - 4 * k) = 0) :
    (fracL k f).length ≤ k ∧ valH (fracL k f) * 2 ^ (52 - 4 * (fracL k f).length) = f ∧ (∀ c ∈ fracL k f, 0 ≤ hexV c) := by
  induction k generalizing f with
  | zero =>
    have : f = 0 := by
      have e : (2 : Nat) ^ (52 - 4 * 0) = 4503599627370496 := by decide
      rw [e] at h2; omega
    subst this
    exact ⟨Nat.le_refl _, by simp [fracL, valH], by simp [fracL]⟩
  | succ k ih =>
    unfold fracL
    by_cases hf : f = 0
    · rw [if_pos hf]
      subst hf
      exact ⟨by simp, by simp [valH], by simp⟩
    · rw [if_neg hf]
      have hd : f / 281474976710656 < 16 := by omega
      have hr : f % 281474976710656 * 16 < 4503599627370496 := by omega
      have hm : f % 281474976710656 * 16 % 2 ^ (52 - 4 * k) = 0 := by
        have e1 : (2 : Nat) ^ (52 - 4 * k) = 2 ^ (52 - 4 * (k + 1)) * 16 := by
          rw [show (16 : Nat) = 2 ^ 4 by decide, ← Nat.pow_add]; congr 1; omega
        rw [e1, Nat.mul_mod_mul_right]
        have e2 : (281474976710656 : Nat) = 2 ^ (52 - 4 * (k + 1)) * 2 ^ (4 * k) := by
          rw [← Nat.pow_add, show 52 - 4 * (k + 1) + 4 * k = 48 by omega]
        rw [e2, Nat.mod_mul_right_mod, h2, Nat.zero_mul]
      obtain ⟨i1, i2, i3⟩ := ih (f % 281474976710656 * 16) (by omega) hr hm
      generalize fracL k (f % 281474976710656 * 16) = l at i1 i2 i3
      refine ⟨by simp only [List.length_cons]; omega, ?_, ?_⟩
      · rw [valH_cons, hexV_hexd _ hd, Int.toNat_natCast, List.length_cons, Nat.add_mul]
        have e3 : 16 ^ l.length * 2 ^ (52 - 4 * (l.length + 1)) = 281474976710656 := by
          rw [pow16, ← Nat.pow_add, show 4 * l.length + (52 - 4 * (l.length + 1)) = 48 by omega]
        have e4 : (2 : Nat) ^ (52 - 4 * l.length) = 2 ^ (52 - 4 * (l.length + 1)) * 16 := by
          rw [show (16 : Nat) = 2 ^ 4 by decide, ← Nat.pow_add]; congr 1; omega
        rw [e4, ← Nat.mul_assoc] at i2
        have e5 : valH l * 2 ^ (52 - 4 * (l.length + 1)) = f % 281474976710656 := Nat.eq_of_mul_eq_mul_right (by decide : 0 < 16) i2
        rw [e5, Nat.mul_assoc, e3]
        omega
      · intro c hc
        rcases List.mem_cons.1 hc with rfl | hc
        · rw [hexV_hexd _ hd]; omega
        · exact i3 c hc
/-- one and what stands behind the point, by digits -/
theorem one_frac (f : Nat) (h1 : f < 4503599627370496) :
    (fracL 13 f).length ≤ 13 ∧ valH (hexd 1 :: fracL 13 f) * 2 ^ (52 - 4 * (fracL 13 f).length) = 4503599627370496 + f := by
  have e0 : (2 : Nat) ^ (52 - 4 * 13) = 1 := by decide
  obtain ⟨i1, i2, -⟩ := fracL_val 13 f (Nat.le_refl _) h1 (by rw [e0]; omega)
  refine ⟨i1, ?_⟩
  rw [valH_cons, hexV_hexd 1 (by omega), Int.toNat_natCast, Nat.add_mul, i2, Nat.one_mul, pow16, ← Nat.pow_add, show 4 * (fracL 13 f).length + (52 - 4 * (fracL 13 f).length) = 52 by omega]
/-- a finite pattern above nought: its power and what stands behind the point -/
def powOf (a : Nat) : Int := if a < 4503599627370496 then (a.log2 : Int) - 1074 else (a / 4503599627370496 : Nat) - 1023
def fracOf (a : Nat) : Nat := if a < 4503599627370496 then a * 2 ^ (52 - a.log2) - 4503599627370496 else a % 4503599627370496
theorem fracOf_spec (a : Nat) (h0 : a ≠ 0) (h1 : a < 9218868437227405312) :
    fracOf a < 4503599627370496 ∧ ValOf (a : Int) (4503599627370496 + fracOf a) (powOf a - 52) ∧ -1074 ≤ powOf a ∧ powOf a ≤ 1023 := by
  unfold fracOf powOf
  by_cases hs : a < 4503599627370496
  · rw [if_pos hs, if_pos hs]
    obtain ⟨l1, l2⟩ := high_le h0
    have hl : a.log2 ≤ 51 := by
      false_or_by_contra
      rename_i g
      have : 2 ^ 52 ≤ 2 ^ a.log2 := Nat.pow_le_pow_right (by omega) (by omega)
      have p52 : (2 : Nat) ^ 52 = 4503599627370496 := by decide
      omega
    have b1 : 2 ^ a.log2 * 2 ^ (52 - a.log2) ≤ a * 2 ^ (52 - a.log2) := Nat.mul_le_mul_right _ l1
    have b2 : a * 2 ^ (52 - a.log2) < 2 ^ (a.log2 + 1) * 2 ^ (52 - a.log2) := Nat.mul_lt_mul_of_pos_right l2 (Nat.two_pow_pos _)
    rw [← Nat.pow_add, show a.log2 + (52 - a.log2) = 52 by omega] at b1
    rw [← Nat.pow_add, show a.log2 + 1 + (52 - a.log2) = 53 by omega] at b2
    have p52 : (2 : Nat) ^ 52 = 4503599627370496 := by decide
    have p53 : (2 : Nat) ^ 53 = 9007199254740992 := by decide
    rw [p52] at b1
    rw [p53] at b2
    refine ⟨by omega, ?_, by omega, by omega⟩
    have e : 4503599627370496 + (a * 2 ^ (52 - a.log2) - 4503599627370496) = a * 2 ^ (52 - a.log2) := by omega
    rw [e]
    have sh := (val_shift (a := (a : Int)) (N := a) (low := (a.log2 : Int) - 1074 - 52) (52 - a.log2)).2
    refine sh ?_
    have el : (a.log2 : Int) - 1074 - 52 + ((52 - a.log2 : Nat) : Int) = -1074 := by omega
    rw [el]
    obtain ⟨f, g, k⟩ := parts_mk a 0 (by omega) (Or.inr rfl) (by omega)
    rw [Nat.zero_mul, Nat.zero_add] at f g k
    exact ⟨by omega, g, f, _, k, by simp⟩
  · rw [if_neg hs, if_neg hs]
    have hr : a % 4503599627370496 < 4503599627370496 := Nat.mod_lt _ (by decide)
    refine ⟨hr, ?_, by omega, by omega⟩
    obtain ⟨f, g, k⟩ := parts_mk (4503599627370496 + a % 4503599627370496) (a / 4503599627370496 - 1) (by omega) (Or.inl (by omega)) (by omega)
    have e : (a / 4503599627370496 - 1) * 4503599627370496 + (4503599627370496 + a % 4503599627370496) = a := by omega
    rw [e] at f g k
    refine ⟨by omega, g, f, _, k, ?_⟩
    have z : (-(((a / 4503599627370496 : Nat) : Int) - 1023 - 52 + 1074)).toNat = 0 := by omega
    have y : (((a / 4503599627370496 : Nat) : Int) - 1023 - 52 + 1074).toNat = a / 4503599627370496 - 1 := by omega
    rw [z, y, Nat.pow_zero, Nat.mul_one]
/-- what a double's text says is the double -/
theorem text_val (a : Nat) (h0 : a ≠ 0) (h1 : a < 9218868437227405312) :
    ValOf (a : Int) (valH (hexd 1 :: fracL 13 (fracOf a))) (powOf a - 4 * (fracL 13 (fracOf a)).length) := by
  obtain ⟨f1, f2, f3, f4⟩ := fracOf_spec a h0 h1
  obtain ⟨g1, g2⟩ := one_frac (fracOf a) f1
  rw [← g2] at f2
  have sh := (val_shift (a := (a : Int)) (N := valH (hexd 1 :: fracL 13 (fracOf a))) (low := powOf a - 52) (52 - 4 * (fracL 13 (fracOf a)).length)).1 f2
  have el : powOf a - 52 + ((52 - 4 * (fracL 13 (fracOf a)).length : Nat) : Int) = powOf a - 4 * (fracL 13 (fracOf a)).length := by omega
  rw [el] at sh
  exact sh
end Go.Proofs.YtdncdddaobemaaaGreatDoor.W.Nu.Q
/- Plain facts on doubles by their exact numbers: which pattern is some digits times a power of two, or none. No Go in sight. -/
namespace Go.Proofs.YtdncdddaobemaaaGreatDoor.W.Nu.Q

/-- how often a number can be halved, and what is left -/
def twos (n : Nat) : Nat := if n = 0 then 0 else if n % 2 = 0 then twos (n / 2) + 1 else 0
  termination_by n
  decreasing_by omega
def oddN (n : Nat) : Nat := if n = 0 then 0 else if n % 2 = 0 then oddN (n / 2) else n
  termination_by n
  decreasing_by omega
theorem odd_twos (n : Nat) (h : n ≠ 0) : oddN n % 2 = 1 ∧ n = oddN n * 2 ^ twos n := by
  induction n using Nat.strongRecOn with
  | _ n ih =>
    rw [oddN, twos]
    rw [if_neg h, if_neg h]
    by_cases g : n % 2 = 0
    · rw [if_pos g, if_pos g]
      obtain ⟨i1, i2⟩ := ih (n / 2) (by omega) (by omega)
      refine ⟨i1, ?_⟩
      rw [Nat.pow_succ, ← Nat.mul_assoc, ← i2]
      omega
    · rw [if_neg g, if_neg g]
      exact ⟨by omega, by simp⟩
/-- the pattern, without a sign, of N times 2 to the low, if there is one -/
def exactP (N : Nat) (low : Int) : Option Int :=
  if N = 0 then some 0
  else if 52 < (oddN N).log2 ∨ low + twos N < -1074 ∨ 1023 < low + twos N + (oddN N).log2 then none
  else if low + twos N + (oddN N).log2 < -1022 then some ((oddN N * 2 ^ (low + twos N + 1074).toNat : Nat) : Int)
  else some (((low + twos N + (oddN N).log2 + 1023).toNat * 4503599627370496 + (oddN N * 2 ^ (52 - (oddN N).log2) - 4503599627370496) : Nat) : Int)
theorem val_zero (a : Int) (low : Int) : ValOf a 0 low ↔ a = 0 := by
  constructor
  · rintro ⟨a0, a1, fa, V, ka, va⟩
    rw [Nat.zero_mul] at va
    have hV : V = 0 := by
      rcases Nat.mul_eq_zero.1 va with h | h
      · exact h
      · exact absurd h (Nat.ne_of_gt (Nat.two_pow_pos _))
    subst hV
    obtain ⟨f, g, k⟩ := parts_mk 0 0 (by omega) (Or.inr rfl) (by omega)
    refine key_inj a 0 a0 a1 (by omega) (by omega) fa (by decide) ?_
    rw [ka]
    have k' : keyI ((0 * 4503599627370496 + 0 : Nat) : Int) = 0 := by rw [k]; simp
    exact k'.symm
  · rintro rfl
    obtain ⟨f, g, k⟩ := parts_mk 0 0 (by omega) (Or.inr rfl) (by omega)
    exact ⟨by omega, by omega, by decide, 0, k.trans (by simp), by simp⟩
theorem exact_iff (N : Nat) (low : Int) (a : Int) : exactP N low = some a ↔ ValOf a N low := by
  unfold exactP
  by_cases h0 : N = 0
  · subst h0
    rw [if_pos rfl, val_zero]
    simp only [Option.some.injEq]
    exact eq_comm
  · rw [if_neg h0]
    obtain ⟨o1, o2⟩ := odd_twos N h0
    have sh : ValOf a N low ↔ ValOf a (oddN N) (low + twos N) := by
      have := val_shift (a := a) (N := oddN N) (low := low) (twos N)
      rw [← o2] at this
      exact this
    rw [sh]
    have on : oddN N ≠ 0 := by omega
    by_cases h1 : 52 < (oddN N).log2 ∨ low + twos N < -1074 ∨ 1023 < low + twos N + (oddN N).log2
    · rw [if_pos h1]
      exact ⟨(fun h => by cases h), fun h => absurd h (val_none _ _ o1 h1 a)⟩
    · rw [if_neg h1]
      obtain ⟨m1, m2⟩ := val_make (oddN N) (low + twos N) on (by omega) (by omega) (by omega)
      by_cases h2 : low + twos N + (oddN N).log2 < -1022
      · rw [if_pos h2]
        have v := m1 h2
        constructor
        · intro h
          injection h with h
          rw [← h]; exact v
        · intro h; rw [val_unique v h]
      · rw [if_neg h2]
        obtain ⟨c1, c2, c3⟩ := m2 (by omega)
        have v := c3 (by omega)
        constructor
        · intro h
          injection h with h
          rw [← h]; exact v
        · intro h; rw [val_unique v h]
theorem exact_none (N : Nat) (low : Int) : exactP N low = none ↔ ∀ a, ¬ ValOf a N low := by
  constructor
  · intro h a ha
    rw [(exact_iff N low a).2 ha] at h
    cases h
  · intro h
    cases e : exactP N low with
    | none => rfl
    | some a => exact absurd ((exact_iff N low a).1 e) (h a)
/-- digits shifted by a power, noughts behind: the same answer -/
theorem exact_shift (N : Nat) (low : Int) (k : Nat) : exactP (N * 2 ^ k) low = exactP N (low + k) := by
  cases e : exactP N (low + k) with
  | some a => rw [exact_iff]; exact (val_shift k).2 ((exact_iff _ _ _).1 e)
  | none =>
    rw [exact_none] at e ⊢
    exact fun a h => e a ((val_shift k).1 h)
/-- a double's own text is read as it -/
theorem exact_text (a : Nat) (h0 : a ≠ 0) (h1 : a < 9218868437227405312) :
    exactP (valH (hexd 1 :: fracL 13 (fracOf a))) (powOf a - 4 * (fracL 13 (fracOf a)).length) = some (a : Int) :=
  (exact_iff _ _ _).2 (text_val a h0 h1)
theorem exact_range (N : Nat) (low : Int) (a : Int) (h : exactP N low = some a) : 0 ≤ a ∧ a < 9218868437227405312 := by
  obtain ⟨a0, a1, fa, -⟩ := (exact_iff N low a).1 h
  simp only [finB, decide_eq_true_eq] at fa
  omega
end Go.Proofs.YtdncdddaobemaaaGreatDoor.W.Nu.Q
/- Plain functions on texts of numbers, as bytes: what is printed, what is read; what is printed is read back. No Go in sight. -/
namespace Go.Proofs.YtdncdddaobemaaaGreatDoor.W.Nu.Q

def hexB (c : UInt8) : Bool := decide (0 ≤ hexV c)
def digB (c : UInt8) : Bool := decide (48 ≤ c.toNat ∧ c.toNat ≤ 57)
/-- a whole number's text -/
def intT (i : Int) : List UInt8 := if i < 0 then 45 :: decL i.natAbs else decL i.natAbs
/-- digits as they may stand, with a sign ahead or not -/
def formI (m : Bool) (d : List UInt8) : Bool := !d.isEmpty && d.all digB && !(d.head? == some 48 && (decide (1 < d.length) || m))
/-- a whole number, and the error, that a text is read as -/
def readD (m : Bool) (d : List UInt8) : Int × Int :=
  if formI m d = true then
    (if (if m = true then valD d ≤ 9223372036854775808 else valD d < 9223372036854775808) then ((if m = true then -(valD d : Int) else valD d), 0) else (0, 13))
  else (0, 20)
def readI (l : List UInt8) : Int × Int :=
  if 64 < l.length then (0, 2) else match l with
  | 45 :: d => readD true d
  | d => readD false d
/-- digits, a point and digits or not, p, a sign, digits: the number of the digits, and what the last one counts -/
def readPow (N : Nat) (behind : Nat) (r : List UInt8) : Option (Nat × Int) :=
  match r with
  | 112 :: sg :: ds =>
    if (sg = 43 ∨ sg = 45) ∧ ds ≠ [] ∧ ds.length ≤ 5 ∧ ds.all digB = true then some (N, (if sg = 45 then -(valD ds : Int) else valD ds) - 4 * behind) else none
  | _ => none
def readBody (r : List UInt8) : Option (Nat × Int) :=
  if r.takeWhile hexB = [] then none else
  match r.dropWhile hexB with
  | 46 :: r1 => if r1.takeWhile hexB = [] then none else readPow (valH (r.takeWhile hexB ++ r1.takeWhile hexB)) (r1.takeWhile hexB).length (r1.dropWhile hexB)
  | r1 => readPow (valH (r.takeWhile hexB)) 0 r1
/-- behind a sign -/
def readS (s : Int) (l : List UInt8) : Int × Int :=
  match l with
  | 48 :: 120 :: r => match readBody r with
    | none => (0, 20)
    | some (N, low) => match exactP N low with
      | none => (0, 21)
      | some a => (s + a, 0)
  | _ => (0, 20)
def nanT : List UInt8 := [110, 97, 110]
def infT : List UInt8 := [105, 110, 102]
/-- a double's pattern, and the error, that a text is read as -/
def readF (l : List UInt8) : Int × Int :=
  if 64 < l.length then (0, 2) else if l = nanT then (9221120237041090560, 0) else if l = infT then (9218868437227405312, 0) else if l = 45 :: infT then (18442240474082181120, 0) else match l with
  | 45 :: b => readS 9223372036854775808 b
  | b => readS 0 b
/-- the text of a pattern without a sign that is no NaN -/
def posT (a : Nat) : List UInt8 :=
  if a = 9218868437227405312 then infT else if a = 0 then [48, 120, 48, 112, 43, 48]
  else [48, 120, 49] ++ (if fracOf a = 0 then [] else 46 :: fracL 13 (fracOf a)) ++ [112] ++ (if powOf a < 0 then [45] else [43]) ++ decL (powOf a).natAbs
def fltT (u : Int) : List UInt8 := if nanB u = true then nanT else if 9223372036854775808 ≤ u then 45 :: posT (u - 9223372036854775808).toNat else posT u.toNat

/-! ### there and back -/
theorem takeWhile_all {p : UInt8 → Bool} {l r : List UInt8} (h : ∀ c ∈ l, p c = true) (hr : ∀ c, r.head? = some c → p c = false) : (l ++ r).takeWhile p = l ∧ (l ++ r).dropWhile p = r := by
  induction l with
  | nil =>
    cases r with
    | nil => exact ⟨rfl, rfl⟩
    | cons c r =>
      have := hr c rfl
      exact ⟨by simp [this], by simp [this]⟩
  | cons c l ih =>
    have hc := h c (by simp)
    obtain ⟨i1, i2⟩ := ih (fun x hx => h x (by simp [hx]))
    exact ⟨by simp [hc, i1], by simp [hc, i2]⟩
theorem readPow_ok (N behind : Nat) (sg : UInt8) (ds : List UInt8) (h1 : sg = 43 ∨ sg = 45) (h2 : ds ≠ []) (h3 : ds.length ≤ 5) (h4 : ds.all digB = true) :
    readPow N behind (112 :: sg :: ds) = some (N, (if sg = 45 then -(valD ds : Int) else valD ds) - 4 * behind) := by
  unfold readPow
  exact if_pos ⟨h1, h2, h3, h4⟩
theorem readBody_plain (ah : List UInt8) (sg : UInt8) (ds : List UInt8) (ha : ∀ c ∈ ah, hexB c = true) (hn : ah ≠ []) (h1 : sg = 43 ∨ sg = 45) (h2 : ds ≠ []) (h3 : ds.length ≤ 5) (h4 : ds.all digB = true) :
    readBody (ah ++ 112 :: sg :: ds) = some (valH ah, (if sg = 45 then -(valD ds : Int) else valD ds)) := by
  obtain ⟨t1, t2⟩ := takeWhile_all (r := 112 :: sg :: ds) ha (fun c hc => by
    simp only [List.head?_cons, Option.some.injEq] at hc
    subst hc; decide)
  unfold readBody
  rw [t1, t2, if_neg hn]
  have := readPow_ok (valH ah) 0 sg ds h1 h2 h3 h4
  simpa using this
theorem readBody_point (ah bh : List UInt8) (sg : UInt8) (ds : List UInt8) (ha : ∀ c ∈ ah, hexB c = true) (hn : ah ≠ []) (hb : ∀ c ∈ bh, hexB c = true) (hbn : bh ≠ []) (h1 : sg = 43 ∨ sg = 45) (h2 : ds ≠ []) (h3 : ds.length ≤ 5) (h4 : ds.all digB = true) :
    readBody (ah ++ 46 :: (bh ++ 112 :: sg :: ds)) = some (valH (ah ++ bh), (if sg = 45 then -(valD ds : Int) else valD ds) - 4 * bh.length) := by
  obtain ⟨t1, t2⟩ := takeWhile_all (r := 46 :: (bh ++ 112 :: sg :: ds)) ha (fun c hc => by
    simp only [List.head?_cons, Option.some.injEq] at hc
    subst hc; decide)
  obtain ⟨s1, s2⟩ := takeWhile_all (r := 112 :: sg :: ds) hb (fun c hc => by
    simp only [List.head?_cons, Option.some.injEq] at hc
    subst hc; decide)
  unfold readBody
  rw [t1, t2, if_neg hn]
  simp only [s1, s2]
  rw [if_neg hbn]
  exact readPow_ok _ _ sg ds h1 h2 h3 h4
theorem dec_all (n : Nat) : (decL n).all digB = true := by
  rw [List.all_eq_true]
  intro c hc
  exact decide_eq_true (decL_digits n c hc)
theorem pow_len (a : Nat) (h0 : a ≠ 0) (h1 : a < 9218868437227405312) : (decL (powOf a).natAbs).length ≤ 4 := by
  obtain ⟨-, -, f3, f4⟩ := fracOf_spec a h0 h1
  exact decL_length _ 4 (by omega) (by omega)
theorem fracL_hex (f : Nat) (h1 : f < 4503599627370496) : ∀ c ∈ fracL 13 f, hexB c = true := by
  have e0 : (2 : Nat) ^ (52 - 4 * 13) = 1 := by decide
  obtain ⟨-, -, i3⟩ := fracL_val 13 f (Nat.le_refl _) h1 (by rw [e0]; omega)
  exact fun c hc => decide_eq_true (i3 c hc)
theorem fracL_ne (f : Nat) (h : f ≠ 0) : fracL 13 f ≠ [] := by unfold fracL; rw [if_neg h]; simp
/-- a text behind its sign is read back -/
theorem readS_pos (s : Int) (a : Nat) (h1 : a < 9218868437227405312) : readS s (posT a) = (s + a, 0) := by
  unfold posT
  rw [if_neg (by omega)]
  by_cases h0 : a = 0
  · subst h0
    rw [if_pos rfl]
    have e : readBody [48, 112, 43, 48] = some (0, 0) := by decide
    unfold readS
    simp only [e]
    have : exactP 0 0 = some 0 := by unfold exactP; rw [if_pos rfl]
    rw [this]; rfl
  · rw [if_neg h0]
    obtain ⟨f1, -, -, -⟩ := fracOf_spec a h0 h1
    have hd := dec_all (powOf a).natAbs
    have hl := pow_len a h0 h1
    have hne := decL_ne (powOf a).natAbs
    have ex := exact_text a h0 h1
    have pw : (if (if powOf a < 0 then (45 : UInt8) else 43) = 45 then -(valD (decL (powOf a).natAbs) : Int) else valD (decL (powOf a).natAbs)) = powOf a := by
      rw [valD_dec]
      by_cases g : powOf a < 0
      · rw [if_pos g, if_pos rfl]; omega
      · rw [if_neg g, if_neg (by decide)]; omega
    have sgn : (if powOf a < 0 then (45 : UInt8) else 43) = 43 ∨ (if powOf a < 0 then (45 : UInt8) else 43) = 45 := by
      by_cases g : powOf a < 0
      · rw [if_pos g]; exact Or.inr rfl
      · rw [if_neg g]; exact Or.inl rfl
    have hs : (if powOf a < 0 then [(45 : UInt8)] else [43]) = [if powOf a < 0 then 45 else 43] := by split <;> rfl
    have h49 : (49 : UInt8) = hexd 1 := by decide
    by_cases hf : fracOf a = 0
    · rw [if_pos hf, hs]
      rw [hf] at ex
      have e0 : fracL 13 0 = [] := rfl
      rw [e0] at ex
      have b := readBody_plain [49] _ _ (by intro c hc; simp at hc; subst hc; decide) (by simp) sgn hne (by omega) hd
      rw [pw] at b
      have et : [48, 120, 49] ++ [] ++ [112] ++ [if powOf a < 0 then (45 : UInt8) else 43] ++ decL (powOf a).natAbs = 48 :: 120 :: ([49] ++ 112 :: (if powOf a < 0 then (45 : UInt8) else 43) :: decL (powOf a).natAbs) := by simp
      rw [et]
      unfold readS
      simp only [b]
      rw [h49]
      have ex' : exactP (valH [hexd 1]) (powOf a) = some (a : Int) := by simpa using ex
      rw [ex']
    · rw [if_neg hf, hs]
      have b := readBody_point [49] (fracL 13 (fracOf a)) _ _ (by intro c hc; simp at hc; subst hc; decide) (by simp) (fracL_hex _ f1) (fracL_ne _ hf) sgn hne (by omega) hd
      rw [pw] at b
      have et : [48, 120, 49] ++ 46 :: fracL 13 (fracOf a) ++ [112] ++ [if powOf a < 0 then (45 : UInt8) else 43] ++ decL (powOf a).natAbs = 48 :: 120 :: ([49] ++ 46 :: (fracL 13 (fracOf a) ++ 112 :: (if powOf a < 0 then (45 : UInt8) else 43) :: decL (powOf a).natAbs)) := by simp
      rw [et]
      unfold readS
      simp only [b]
      rw [h49]
      have ex' : exactP (valH ([hexd 1] ++ fracL 13 (fracOf a))) (powOf a - 4 * (fracL 13 (fracOf a)).length) = some (a : Int) := ex
      rw [ex']
theorem posT_len (a : Nat) (h1 : a ≤ 9218868437227405312) : (posT a).length ≤ 23 := by
  unfold posT
  by_cases hi : a = 9218868437227405312
  · rw [if_pos hi]; decide
  · rw [if_neg hi]
    by_cases h0 : a = 0
    · rw [if_pos h0]; decide
    · rw [if_neg h0]
      have hl := pow_len a h0 (by omega)
      obtain ⟨f1, -, -, -⟩ := fracOf_spec a h0 (by omega)
      obtain ⟨g1, -⟩ := one_frac (fracOf a) f1
      have e1 : (if fracOf a = 0 then [] else (46 : UInt8) :: fracL 13 (fracOf a)).length ≤ 14 := by
        split
        · simp
        · simp only [List.length_cons]; omega
      have e2 : (if powOf a < 0 then [(45 : UInt8)] else [43]).length = 1 := by split <;> rfl
      simp only [List.length_append, e2, List.length_cons, List.length_nil]
      omega
theorem posT_head (a : Nat) : (posT a).head? = some 105 ∨ (posT a).head? = some 48 := by
  unfold posT
  split
  · exact Or.inl rfl
  · split
    · exact Or.inr rfl
    · exact Or.inr rfl
/-- what is printed of a double is read back, NaNs made one -/
theorem readF_back (u : Int) (u0 : 0 ≤ u) (u1 : u < 18446744073709551616) : readF (fltT u) = (fltW u, 0) := by
  unfold fltT fltW
  cases hn : nanB u with
  | true => rw [if_pos rfl, if_pos rfl]; decide
  | false =>
    simp only [Bool.false_eq_true, if_false]
    have hm : u % 9223372036854775808 ≤ 9218868437227405312 := by
      simp only [nanB, decide_eq_false_iff_not] at hn
      omega
    by_cases hs : 9223372036854775808 ≤ u
    · rw [if_pos hs]
      generalize hA : (u - 9223372036854775808).toNat = a
      have ha : a ≤ 9218868437227405312 := by omega
      have hl := posT_len a ha
      by_cases hi : a = 9218868437227405312
      · have e : u = 18442240474082181120 := by omega
        rw [e, hi]; decide
      · have h48 : (posT a).head? = some 48 := by
          rcases posT_head a with h | h
          · exfalso
            unfold posT at h
            rw [if_neg hi] at h
            split at h <;> cases h
          · exact h
        unfold readF
        rw [if_neg (by simp only [List.length_cons]; omega), if_neg (by intro e; injection e with e1 e2; revert e1; decide), if_neg (by intro e; injection e with e1 e2; revert e1; decide), if_neg (by intro e; injection e with e1 e2; rw [e2] at h48; revert h48; decide)]
        show readS 9223372036854775808 (posT a) = _
        rw [readS_pos _ a (by omega)]
        congr 1; omega
    · rw [if_neg hs]
      generalize hA : u.toNat = a
      have ha : a ≤ 9218868437227405312 := by omega
      have hl := posT_len a ha
      by_cases hi : a = 9218868437227405312
      · have e : u = 9218868437227405312 := by omega
        rw [e, hi]; decide
      · have h48 : (posT a).head? = some 48 := by
          rcases posT_head a with h | h
          · exfalso
            unfold posT at h
            rw [if_neg hi] at h
            split at h <;> cases h
          · exact h
        have r := readS_pos 0 a (by omega)
        unfold readF
        rw [if_neg (by omega), if_neg (by intro e; rw [e] at h48; revert h48; decide), if_neg (by intro e; rw [e] at h48; revert h48; decide), if_neg (by intro e; rw [e] at h48; revert h48; decide)]
        cases hp : posT a with
        | nil => rw [hp] at h48; cases h48
        | cons c l =>
          rw [hp] at h48 r
          simp only [List.head?_cons, Option.some.injEq] at h48
          subst h48
          show readS 0 (48 :: l) = _
          rw [r]
          congr 1; omega
/-- what is printed of a whole number is read back -/
theorem readI_back (i : Int) (i0 : -9223372036854775808 ≤ i) (i1 : i < 9223372036854775808) : readI (intT i) = (i, 0) := by
  have len : (decL i.natAbs).length ≤ 19 := decL_length _ 19 (by omega) (by omega)
  have form : ∀ m : Bool, (m = true → i.natAbs ≠ 0) → formI m (decL i.natAbs) = true := by
    intro m hm
    obtain ⟨g1, g2, g3⟩ := decL_good i.natAbs
    unfold formI
    have a1 : (decL i.natAbs).isEmpty = false := by simpa using g1
    have h48 : (48 : UInt8) = dig 0 := by decide
    rw [a1, dec_all]
    by_cases hz : i.natAbs = 0
    · have mf : m = false := by
        cases m
        · rfl
        · exact absurd hz (hm rfl)
      rw [hz, mf, decL_small (by omega)]; decide
    · have hh := decL_head i.natAbs hz
      rw [← h48] at hh
      have : ((decL i.natAbs).head? == some 48) = false := by simpa using hh
      rw [this]; rfl
  unfold intT
  by_cases hs : i < 0
  · rw [if_pos hs]
    unfold readI
    rw [if_neg (by simp only [List.length_cons]; omega)]
    show readD true (decL i.natAbs) = _
    unfold readD
    rw [if_pos (form true (fun _ => by omega)), valD_dec]
    rw [if_pos (by rw [if_pos rfl]; omega), if_pos rfl]
    congr 1; omega
  · rw [if_neg hs]
    unfold readI
    rw [if_neg (by omega)]
    have hd := decL_digits i.natAbs
    have key : readD false (decL i.natAbs) = (i, 0) := by
      unfold readD
      rw [if_pos (form false (fun h => by cases h)), valD_dec, if_pos (by rw [if_neg (by decide)]; omega), if_neg (by decide)]
      congr 1; omega
    cases hp : decL i.natAbs with
    | nil => exact absurd hp (decL_ne _)
    | cons c l =>
      rw [hp] at hd key
      have hc := hd c (by simp)
      have hne : c ≠ 45 := by intro e; subst e; revert hc; decide
      split
      · rename_i d e
        injection e with e1 e2
        exact absurd e1 hne
      · exact key
end Go.Proofs.YtdncdddaobemaaaGreatDoor.W.Nu.Q
/- Plain facts on texts of numbers, more: what is read as a whole number is printed the same; no NaN but one is read; a number's text says of which kind it is. No Go in sight. -/
namespace Go.Proofs.YtdncdddaobemaaaGreatDoor.W.Nu.Q

/-! ### of which kind -/
/-- does a text say a double? -/
def floatB (l : List UInt8) : Bool := (match l with | 45 :: 48 :: 120 :: _ => true | 48 :: 120 :: _ => true | _ => false) || l == nanT || l == infT || l == 45 :: infT
/-- a number, and the error, that a text is read as -/
def readN (l : List UInt8) : Bool × Int × Int × Int :=
  if 64 < l.length then (false, 0, 0, 2)
  else if floatB l = true then (if (readF l).2 = 0 then (false, 0, (readF l).1, 0) else (false, 0, 0, (readF l).2))
  else (if (readI l).2 = 0 then (true, (readI l).1, 0, 0) else (false, 0, 0, (readI l).2))
theorem dec_second (n : Nat) : ∀ l, decL n ≠ 48 :: 120 :: l := by
  intro l h
  have := decL_digits n 120 (by rw [h]; simp)
  revert this
  decide
theorem int_kind (i : Int) : floatB (intT i) = false := by
  have hd := decL_digits i.natAbs
  have hne := decL_ne i.natAbs
  have no : ∀ c l, decL i.natAbs = c :: l → c ≠ 45 ∧ c ≠ 110 ∧ c ≠ 105 := by
    intro c l h
    have hc := hd c (by rw [h]; simp)
    refine ⟨?_, ?_, ?_⟩ <;> (intro e; subst e; revert hc; decide)
  have s2 := dec_second i.natAbs
  unfold intT
  cases hp : decL i.natAbs with
  | nil => exact absurd hp hne
  | cons c l =>
    obtain ⟨n1, n2, n3⟩ := no c l hp
    rw [hp] at s2
    have q2 : (c :: l == nanT) = false := by
      rw [beq_eq_false_iff_ne]; intro e; injection e with e1 e2; exact n2 e1
    have q3 : (c :: l == infT) = false := by
      rw [beq_eq_false_iff_ne]; intro e; injection e with e1 e2; exact n3 e1
    have q4 : (c :: l == 45 :: infT) = false := by
      rw [beq_eq_false_iff_ne]; intro e; injection e with e1 e2; exact n1 e1
    have p2 : (45 :: c :: l == nanT) = false := by
      rw [beq_eq_false_iff_ne]; intro e; injection e with e1 e2; revert e1; decide
    have p3 : (45 :: c :: l == infT) = false := by
      rw [beq_eq_false_iff_ne]; intro e; injection e with e1 e2; revert e1; decide
    have p4 : (45 :: c :: l == 45 :: infT) = false := by
      rw [beq_eq_false_iff_ne]; intro e; injection e with e1 e2; injection e2 with e3 e4; exact n3 e3
    by_cases hs : i < 0
    · rw [if_pos hs]
      unfold floatB
      rw [p2, p3, p4]
      split
      · rename_i r e
        injection e with e1 e2
        exact absurd e2 (s2 r)
      · rename_i r e
        injection e with e1 e2
        revert e1; decide
      · rfl
    · rw [if_neg hs]
      unfold floatB
      rw [q2, q3, q4]
      split
      · rename_i r e
        injection e with e1 e2
        exact absurd e1 n1
      · rename_i r e
        exact absurd e (s2 r)
      · rfl
theorem int_len (i : Int) (i0 : -9223372036854775808 ≤ i) (i1 : i < 9223372036854775808) : (intT i).length ≤ 20 := by
  have len : (decL i.natAbs).length ≤ 19 := decL_length _ 19 (by omega) (by omega)
  unfold intT
  split
  · simp only [List.length_cons]; omega
  · omega
theorem readN_int (i : Int) (i0 : -9223372036854775808 ≤ i) (i1 : i < 9223372036854775808) : readN (intT i) = (true, i, 0, 0) := by
  have l := int_len i i0 i1
  unfold readN
  rw [if_neg (by omega), int_kind, if_neg (by decide), readI_back i i0 i1]
  rfl
theorem posT_kind (a : Nat) : floatB (posT a) = true ∧ floatB (45 :: posT a) = true := by
  unfold posT
  split
  · exact ⟨by decide, by decide⟩
  · split
    · exact ⟨by decide, by decide⟩
    · exact ⟨rfl, rfl⟩
theorem flt_kind (u : Int) : floatB (fltT u) = true := by
  unfold fltT
  split
  · decide
  · split
    · exact (posT_kind _).2
    · exact (posT_kind _).1
theorem flt_len (u : Int) (u0 : 0 ≤ u) (u1 : u < 18446744073709551616) : (fltT u).length ≤ 24 := by
  unfold fltT
  cases hn : nanB u with
  | true => rw [if_pos rfl]; decide
  | false =>
    simp only [Bool.false_eq_true, if_false]
    have hm : u % 9223372036854775808 ≤ 9218868437227405312 := by
      simp only [nanB, decide_eq_false_iff_not] at hn
      omega
    split
    · have := posT_len (u - 9223372036854775808).toNat (by omega)
      simp only [List.length_cons]; omega
    · have := posT_len u.toNat (by omega)
      omega
theorem readN_flt (u : Int) (u0 : 0 ≤ u) (u1 : u < 18446744073709551616) : readN (fltT u) = (false, 0, fltW u, 0) := by
  have l := flt_len u u0 u1
  unfold readN
  rw [if_neg (by omega), flt_kind, if_pos rfl, readF_back u u0 u1]
  rfl
end Go.Proofs.YtdncdddaobemaaaGreatDoor.W.Nu.Q
/- Plain facts on texts of numbers, more: signs ahead; one number written otherwise, with noughts ahead of its digits or behind them. No Go in sight. -/
namespace Go.Proofs.YtdncdddaobemaaaGreatDoor.W.Nu.Q

end Go.Proofs.YtdncdddaobemaaaGreatDoor.W.Nu.Q
/- Plain facts on rows of bits, as the reference of package numtext has them: the number that a row is, and which pattern it makes. No Go in sight. -/
namespace Go.Proofs.YtdncdddaobemaaaGreatDoor.W.Nu.Q

end Go.Proofs.YtdncdddaobemaaaGreatDoor.W.Nu.Q
