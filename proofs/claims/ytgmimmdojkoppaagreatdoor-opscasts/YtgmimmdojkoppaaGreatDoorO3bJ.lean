import Derived.Test.YtgmimmdojkoppaaGreatDoorO3aJ
import Derived.Test.YtgmimmdojkoppaaGreatDoorBase25
import Derived.Shelf.Abstract
/- Package ops: done, over Unbox's and the job's contracts. -/
namespace Go.Proofs.YtgmimmdojkoppaaGreatDoor.W.Nu
open Go.ChangeShapes Go.WideShapes Go.RowKit Go.Shelf
set_option linter.unusedVariables false
theorem row_cells {w : World} {b : Nat} {l : List Value} {t : TypeId} (h : w.heap[b]? = some (.cells l.toArray t (0, 0))) : ∀ j, w.cell? ⟨b, j, none⟩ = l.toArray[j]? := fun j => cell_of_row _ b j _ _ _ h
theorem row_thaw {w : World} {b : Nat} {l : List Value} {t : TypeId} (h : w.heap[b]? = some (.cells l.toArray t (0, 0))) : ∀ j, w.frozen? ⟨b, j, none⟩ = false := fun j => by simp only [World.frozen?, h]; simp
theorem set5 {w A W5 : World} {b B : Nat} {l : List Value} {t : TypeId} (f : w.heap[b]? = some (.cells l.toArray t (0, 0))) (HB : Below B A w) (hb : B ≤ b) (o0 o1 o2 o3 o4 : Nat) (x0 x1 x2 x3 x4 : Value) (hW : ((((w.setCell ⟨b, o0, none⟩ x0).setCell ⟨b, o1, none⟩ x1).setCell ⟨b, o2, none⟩ x2).setCell ⟨b, o3, none⟩ x3).setCell ⟨b, o4, none⟩ x4 = W5) :
    W5.heap[b]? = some (.cells (((((l.set o0 x0).set o1 x1).set o2 x2).set o3 x3).set o4 x4).toArray t (0, 0)) ∧ Below B A W5 ∧ (∀ (n i : Nat), n ≠ b → W5.cell? ⟨n, i, none⟩ = w.cell? ⟨n, i, none⟩) := by
  subst hW
  refine ⟨W.heap_set (W.heap_set (W.heap_set (W.heap_set (W.heap_set f o0 x0) o1 x1) o2 x2) o3 x3) o4 x4, ((((HB.setCell (p := ⟨b, o0, none⟩) hb x0).setCell (p := ⟨b, o1, none⟩) hb x1).setCell (p := ⟨b, o2, none⟩) hb x2).setCell (p := ⟨b, o3, none⟩) hb x3).setCell (p := ⟨b, o4, none⟩) hb x4, fun n i h => ?_⟩
  rw [World.cell?_setCell_far _ _ _ _ (fun e => h e.symm), World.cell?_setCell_far _ _ _ _ (fun e => h e.symm), World.cell?_setCell_far _ _ _ _ (fun e => h e.symm), World.cell?_setCell_far _ _ _ _ (fun e => h e.symm), World.cell?_setCell_far _ _ _ _ (fun e => h e.symm)]
theorem words_of2 {w : World} {wb a b : Nat} (h0 : w.cell? ⟨wb, 0, none⟩ = some (.int .u64 (a : Nat))) (h1 : w.cell? ⟨wb, 1, none⟩ = some (.int .u64 (b : Nat))) (l0 : a < 18446744073709551616) (l1 : b < 18446744073709551616) : WordsAt w (.slice (some ⟨wb, 0, none⟩) 2 2) [a, b] := by
  refine ⟨_, _, rfl, by simp, fun x hx => by simp at hx; rcases hx with rfl | rfl <;> assumption, fun i hi => ⟨_, rfl, ?_⟩⟩
  have e1 : ((⟨wb, 0, none⟩ : Addr).add i) = ⟨wb, i, none⟩ := by unfold Addr.add; split <;> simp_all
  have : i = 0 ∨ i = 1 := by simp at hi; omega
  rw [e1]
  rcases this with rfl | rfl
  · exact h0
  · exact h1
theorem words_of1 {w : World} {wb a : Nat} (h0 : w.cell? ⟨wb, 0, none⟩ = some (.int .u64 (a : Nat))) (l0 : a < 18446744073709551616) : WordsAt w (.slice (some ⟨wb, 0, none⟩) 1 1) [a] := by
  refine ⟨_, _, rfl, by simp, fun x hx => by simp at hx; rw [hx]; exact l0, fun i hi => ⟨_, rfl, ?_⟩⟩
  have e1 : ((⟨wb, 0, none⟩ : Addr).add i) = ⟨wb, i, none⟩ := by unfold Addr.add; split <;> simp_all
  have : i = 0 := by simp at hi; omega
  subst this
  rw [e1]
  exact h0
theorem row_below {w w' : World} {b : Nat} {o : Obj} (h : w.heap[b]? = some o) (hB : Below w.heap.size w w') : w'.heap[b]? = some o := (hB.block b (Array.getElem?_eq_some_iff.1 h).1).trans h
set_option maxRecDepth 100000 in
set_option maxHeartbeats 1000000 in
theorem done2_g (W : World) (hb wb : Nat) (a b : Nat) (kf : Nat) (eg : ∀ args w, (callFunc kf args).run Tryz.prog w = .ok (.enter kf args) w) (vr : Value) (rs : List Nat) (hr : WordsAt W vr rs) (hl : rs.length ≤ 999000) (k0 i0 b0 r0 : Int) (s0 : ByteArray) (k1 i1 b1 r1 : Int) (s1 : ByteArray) (hw0 : W.cell? ⟨wb, 0, none⟩ = some (.int .u64 (a : Nat))) (hw1 : W.cell? ⟨wb, 1, none⟩ = some (.int .u64 (b : Nat))) (lt0 : a < 18446744073709551616) (lt1 : b < 18446744073709551616)
    (cu0 : ∀ w', Below W.heap.size W w' → Calls Tryz.prog 18 #[.pointer (some ⟨hb, 0, none⟩), .int .u64 (a : Nat)] w' fun e w'' => e = .returned (.tuple #[.agg #[.int .i64 k0, .int .i64 i0, .int .u64 b0, .string s0, .int .u64 r0], .int .i64 0]) ∧ Below w'.heap.size w' w'') (cu1 : ∀ w', Below W.heap.size W w' → Calls Tryz.prog 18 #[.pointer (some ⟨hb, 0, none⟩), .int .u64 (b : Nat)] w' fun e w'' => e = .returned (.tuple #[.agg #[.int .i64 k1, .int .i64 i1, .int .u64 b1, .string s1, .int .u64 r1], .int .i64 0]) ∧ Below w'.heap.size w' w'')
    {R : Ending → World → Prop} (two : ∀ e w', R e w' → ∃ x y, e = .returned (.tuple #[.int .u64 x, .int .i64 y]))
    (cj : ∀ (w' : World) (vb : Nat) (vr' : Value), Below W.heap.size W w' → (∀ j, w'.cell? ⟨vb, j, none⟩ = #[.int .i64 k0, .int .i64 i0, .int .u64 b0, .string s0, .int .u64 r0, .int .i64 k1, .int .i64 i1, .int .u64 b1, .string s1, .int .u64 r1][j]?) → WordsAt w' vr' (rs ++ [a, b]) → Calls Tryz.prog kf #[.agg #[.pointer (some ⟨hb, 0, none⟩), .slice (some ⟨wb, 0, none⟩) 2 2, .slice (some ⟨vb, 0, none⟩) 2 2, vr']] w' R) :
    Calls Tryz.prog 15 #[.pointer (some ⟨hb, 0, none⟩), .func (.func kf) #[] #[], .slice (some ⟨wb, 0, none⟩) 2 2, vr] W R := by
  have T := hid two
  clear two
  have hmk := make2 W
  have hB1 : Below W.heap.size W (W.alloc (.cells #[.int .i64 0, .int .i64 0, .int .u64 0, .string ⟨#[]⟩, .int .u64 0, .int .i64 0, .int .i64 0, .int .u64 0, .string ⟨#[]⟩, .int .u64 0] 47)) := (Below.refl _ W).alloc (Nat.le_refl _) _
  have f1 : (W.alloc (.cells [.int .i64 0, .int .i64 0, .int .u64 0, .string ⟨#[]⟩, .int .u64 0, .int .i64 0, .int .i64 0, .int .u64 0, .string ⟨#[]⟩, .int .u64 0].toArray 47)).heap[W.heap.size]? = some (.cells [.int .i64 0, .int .i64 0, .int .u64 0, .string ⟨#[]⟩, .int .u64 0, .int .i64 0, .int .i64 0, .int .u64 0, .string ⟨#[]⟩, .int .u64 0].toArray 47 (0, 0)) := World.alloc_heap_new W (.cells #[.int .i64 0, .int .i64 0, .int .u64 0, .string ⟨#[]⟩, .int .u64 0, .int .i64 0, .int .i64 0, .int .u64 0, .string ⟨#[]⟩, .int .u64 0] 47)
  obtain ⟨o1, cap1, hvr, -⟩ := id hr
  subst hvr
  have hWB : Hid (W.heap.size ≤ W.heap.size) := Nat.le_refl _
  go_enter Tryz.func15, Tryz.ntmps15
  go_upto_region 3 with fail
  have hWW : wb ≠ W.heap.size := by have := cell_lt hw0; omega
  have HV := hid hB1
  have HR := hid hr
  clear hmk hr hB1
  have f := f1
  clear f1
  replace hw0 := cell_keep HV.out hw0
  replace hw1 := cell_keep HV.out hw1
  generalize hW1 : W.alloc (.cells #[.int .i64 0, .int .i64 0, .int .u64 0, .string ⟨#[]⟩, .int .u64 0, .int .i64 0, .int .i64 0, .int .u64 0, .string ⟨#[]⟩, .int .u64 0] 47) = W1 at *
  clear hW1
  go_wp2
  refine wp_loop_rounds 3 ?_
  rw [rounds_succ]
  go_upto_region 8 with (go_at_call 18; (with_reducible refine (cu0 _ HV.out).mono ?_); rintro e W2 ⟨rfl, hB2⟩; clear cu0)
  have hB3 : Below W2.heap.size W2 (W2.alloc (.cells #[.int .i64 k0, .int .i64 i0, .int .u64 b0, .string s0, .int .u64 r0] 47)) := (Below.refl _ W2).alloc (Nat.le_refl _) _
  have hB4 := hB2.trans (hB3.mono hB2.size)
  replace HV := hid (HV.out.trans (hB4.mono HV.out.size))
  replace f := row_below f hB4
  replace hw0 := cell_keep hB4 hw0
  replace hw1 := cell_keep hB4 hw1
  have e13 := World.cell?_alloc_new W2 #[.int .i64 k0, .int .i64 i0, .int .u64 b0, .string s0, .int .u64 r0] 47
  have cv := row_cells f
  have zv := row_thaw f
  clear hB2 hB3 hB4
  generalize W2.heap.size = b13 at *
  generalize W2.alloc (.cells #[.int .i64 k0, .int .i64 i0, .int .u64 b0, .string s0, .int .u64 r0] 47) = W3 at *
  have F := hid f
  clear f
  go_upto_region 9 with fail
  generalize hW5 : World.setCell _ _ _ = W5
  obtain ⟨f, hB5, far⟩ := set5 F.out HV.out (Nat.le_refl _) 0 1 2 3 4 _ _ _ _ _ hW5
  replace f : W5.heap[W.heap.size]? = some (.cells [.int .i64 k0, .int .i64 i0, .int .u64 b0, .string s0, .int .u64 r0, .int .i64 0, .int .i64 0, .int .u64 0, .string ⟨#[]⟩, .int .u64 0].toArray 47 (0, 0)) := f
  replace HV := hid hB5
  replace hw0 := (far _ _ hWW).trans hw0
  replace hw1 := (far _ _ hWW).trans hw1
  clear hW5 F cv zv e13 far hB5
  go_wp2
  rw [rounds_succ]
  go_upto_region 8 with (go_at_call 18; (with_reducible refine (cu1 _ HV.out).mono ?_); rintro e W2 ⟨rfl, hB2⟩; clear cu1)
  have hB3 : Below W2.heap.size W2 (W2.alloc (.cells #[.int .i64 k1, .int .i64 i1, .int .u64 b1, .string s1, .int .u64 r1] 47)) := (Below.refl _ W2).alloc (Nat.le_refl _) _
  have hB4 := hB2.trans (hB3.mono hB2.size)
  replace HV := hid (HV.out.trans (hB4.mono HV.out.size))
  replace f := row_below f hB4
  replace hw0 := cell_keep hB4 hw0
  replace hw1 := cell_keep hB4 hw1
  have e13 := World.cell?_alloc_new W2 #[.int .i64 k1, .int .i64 i1, .int .u64 b1, .string s1, .int .u64 r1] 47
  have cv := row_cells f
  have zv := row_thaw f
  clear hB2 hB3 hB4
  generalize W2.heap.size = b13 at *
  generalize W2.alloc (.cells #[.int .i64 k1, .int .i64 i1, .int .u64 b1, .string s1, .int .u64 r1] 47) = W3 at *
  have F := hid f
  clear f
  go_upto_region 9 with fail
  generalize hW5 : World.setCell _ _ _ = W5
  obtain ⟨f, hB5, far⟩ := set5 F.out HV.out (Nat.le_refl _) 5 6 7 8 9 _ _ _ _ _ hW5
  replace f : W5.heap[W.heap.size]? = some (.cells [.int .i64 k0, .int .i64 i0, .int .u64 b0, .string s0, .int .u64 r0, .int .i64 k1, .int .i64 i1, .int .u64 b1, .string s1, .int .u64 r1].toArray 47 (0, 0)) := f
  replace HV := hid hB5
  replace hw0 := (far _ _ hWW).trans hw0
  replace hw1 := (far _ _ hWW).trans hw1
  clear hW5 F cv zv e13 far hB5
  go_wp2
  rw [rounds_succ]
  go_upto_region 10 with fail
  have hBa : Below W5.heap.size W5 (W5.alloc (.cells #[.slice o1 rs.length cap1, .slice (some ⟨wb, 0, none⟩) 2 2] 31)) := (Below.refl _ W5).alloc (Nat.le_refl _) _
  have e0 := World.cell?_alloc_new W5 #[.slice o1 rs.length cap1, .slice (some ⟨wb, 0, none⟩) 2 2] 31
  have ww : WordsAt W5 (.slice (some ⟨wb, 0, none⟩) 2 2) [a, b] := words_of2 hw0 hw1 lt0 lt1
  have cs := sconcat_c (W5.alloc (.cells #[.slice o1 rs.length cap1, .slice (some ⟨wb, 0, none⟩) 2 2] 31)) W5.heap.size 2 _ _ rs [a, b] (e0 0) (e0 1) (words_below (words_below HR.out HV.out) hBa) (words_below ww hBa) (by simp only [List.length_cons, List.length_nil]; omega) (by simp)
  have cx : ∀ (w2 : World) (v : Value), Below (W5.alloc (.cells #[.slice o1 rs.length cap1, .slice (some ⟨wb, 0, none⟩) 2 2] 31)).heap.size (W5.alloc (.cells #[.slice o1 rs.length cap1, .slice (some ⟨wb, 0, none⟩) 2 2] 31)) w2 → WordsAt w2 v (rs ++ [a, b]) → Calls Tryz.prog kf #[.agg #[.pointer (some ⟨hb, 0, none⟩), .slice (some ⟨wb, 0, none⟩) 2 2, .slice (some ⟨W.heap.size, 0, none⟩) 2 2, v]] w2 R := by
    intro w2 v hB hv
    have hBb := hBa.trans (hB.mono hBa.size)
    exact cj w2 W.heap.size v (HV.out.trans (hBb.mono HV.out.size)) (row_cells (row_below f hBb)) hv
  clear cj f ww e0 hBa HR HV hw0 hw1
  go_wp2_with (first | (go_at_call 44; (with_reducible refine cs.mono ?_); rintro e w2 ⟨v, rfl, hB2, hw2⟩; (obtain ⟨o2, cap2, hv2, -⟩ := id hw2); (rw [show (rs ++ [a, b]).length = rs.length + 2 from by simp] at hv2); subst hv2; clear cs) | (go_at_fn kf; (with_reducible refine (cx _ _ hB2 hw2).mono ?_); intro e w3 h3; (obtain ⟨x, y, rfl⟩ := T.out e w3 h3); clear cx))
  exact h3
set_option maxRecDepth 100000 in
set_option maxHeartbeats 1000000 in
theorem done2_k (W : World) (hb wb : Nat) (a b : Nat) (kf : Nat) (eg : ∀ args w, (callFunc kf args).run Tryz.prog w = .ok (.enter kf args) w) (cp : Nat) (vr : Value) (rs : List Nat) (hr : WordsAt W vr rs) (hl : rs.length ≤ 999000) (k0 i0 b0 r0 : Int) (s0 : ByteArray) (k1 i1 b1 r1 : Int) (s1 : ByteArray) (hw0 : W.cell? ⟨wb, 0, none⟩ = some (.int .u64 (a : Nat))) (hw1 : W.cell? ⟨wb, 1, none⟩ = some (.int .u64 (b : Nat))) (lt0 : a < 18446744073709551616) (lt1 : b < 18446744073709551616)
    (cu0 : ∀ w', Below W.heap.size W w' → Calls Tryz.prog 18 #[.pointer (some ⟨hb, 0, none⟩), .int .u64 (a : Nat)] w' fun e w'' => e = .returned (.tuple #[.agg #[.int .i64 k0, .int .i64 i0, .int .u64 b0, .string s0, .int .u64 r0], .int .i64 0]) ∧ Below w'.heap.size w' w'') (cu1 : ∀ w', Below W.heap.size W w' → Calls Tryz.prog 18 #[.pointer (some ⟨hb, 0, none⟩), .int .u64 (b : Nat)] w' fun e w'' => e = .returned (.tuple #[.agg #[.int .i64 k1, .int .i64 i1, .int .u64 b1, .string s1, .int .u64 r1], .int .i64 0]) ∧ Below w'.heap.size w' w'')
    {R : Ending → World → Prop} (two : ∀ e w', R e w' → ∃ x y, e = .returned (.tuple #[.int .u64 x, .int .i64 y]))
    (cj : ∀ (w' : World) (vb : Nat) (vr' : Value), Below W.heap.size W w' → (∀ j, w'.cell? ⟨vb, j, none⟩ = #[.int .i64 k0, .int .i64 i0, .int .u64 b0, .string s0, .int .u64 r0, .int .i64 k1, .int .i64 i1, .int .u64 b1, .string s1, .int .u64 r1][j]?) → WordsAt w' vr' (rs ++ [a, b]) → Calls Tryz.prog kf #[.agg #[.pointer (some ⟨hb, 0, none⟩), .slice (some ⟨wb, 0, none⟩) 2 2, .slice (some ⟨vb, 0, none⟩) 2 2, vr'], .pointer (some ⟨cp, 0, none⟩)] w' R) :
    Calls Tryz.prog 15 #[.pointer (some ⟨hb, 0, none⟩), .func (.func kf) #[] #[.pointer (some ⟨cp, 0, none⟩)], .slice (some ⟨wb, 0, none⟩) 2 2, vr] W R := by
  have T := hid two
  clear two
  have hmk := make2 W
  have hB1 : Below W.heap.size W (W.alloc (.cells #[.int .i64 0, .int .i64 0, .int .u64 0, .string ⟨#[]⟩, .int .u64 0, .int .i64 0, .int .i64 0, .int .u64 0, .string ⟨#[]⟩, .int .u64 0] 47)) := (Below.refl _ W).alloc (Nat.le_refl _) _
  have f1 : (W.alloc (.cells [.int .i64 0, .int .i64 0, .int .u64 0, .string ⟨#[]⟩, .int .u64 0, .int .i64 0, .int .i64 0, .int .u64 0, .string ⟨#[]⟩, .int .u64 0].toArray 47)).heap[W.heap.size]? = some (.cells [.int .i64 0, .int .i64 0, .int .u64 0, .string ⟨#[]⟩, .int .u64 0, .int .i64 0, .int .i64 0, .int .u64 0, .string ⟨#[]⟩, .int .u64 0].toArray 47 (0, 0)) := World.alloc_heap_new W (.cells #[.int .i64 0, .int .i64 0, .int .u64 0, .string ⟨#[]⟩, .int .u64 0, .int .i64 0, .int .i64 0, .int .u64 0, .string ⟨#[]⟩, .int .u64 0] 47)
  obtain ⟨o1, cap1, hvr, -⟩ := id hr
  subst hvr
  have hWB : Hid (W.heap.size ≤ W.heap.size) := Nat.le_refl _
  go_enter Tryz.func15, Tryz.ntmps15
  go_upto_region 3 with fail
  have hWW : wb ≠ W.heap.size := by have := cell_lt hw0; omega
  have HV := hid hB1
  have HR := hid hr
  clear hmk hr hB1
  have f := f1
  clear f1
  replace hw0 := cell_keep HV.out hw0
  replace hw1 := cell_keep HV.out hw1
  generalize hW1 : W.alloc (.cells #[.int .i64 0, .int .i64 0, .int .u64 0, .string ⟨#[]⟩, .int .u64 0, .int .i64 0, .int .i64 0, .int .u64 0, .string ⟨#[]⟩, .int .u64 0] 47) = W1 at *
  clear hW1
  go_wp2
  refine wp_loop_rounds 3 ?_
  rw [rounds_succ]
  go_upto_region 8 with (go_at_call 18; (with_reducible refine (cu0 _ HV.out).mono ?_); rintro e W2 ⟨rfl, hB2⟩; clear cu0)
  have hB3 : Below W2.heap.size W2 (W2.alloc (.cells #[.int .i64 k0, .int .i64 i0, .int .u64 b0, .string s0, .int .u64 r0] 47)) := (Below.refl _ W2).alloc (Nat.le_refl _) _
  have hB4 := hB2.trans (hB3.mono hB2.size)
  replace HV := hid (HV.out.trans (hB4.mono HV.out.size))
  replace f := row_below f hB4
  replace hw0 := cell_keep hB4 hw0
  replace hw1 := cell_keep hB4 hw1
  have e13 := World.cell?_alloc_new W2 #[.int .i64 k0, .int .i64 i0, .int .u64 b0, .string s0, .int .u64 r0] 47
  have cv := row_cells f
  have zv := row_thaw f
  clear hB2 hB3 hB4
  generalize W2.heap.size = b13 at *
  generalize W2.alloc (.cells #[.int .i64 k0, .int .i64 i0, .int .u64 b0, .string s0, .int .u64 r0] 47) = W3 at *
  have F := hid f
  clear f
  go_upto_region 9 with fail
  generalize hW5 : World.setCell _ _ _ = W5
  obtain ⟨f, hB5, far⟩ := set5 F.out HV.out (Nat.le_refl _) 0 1 2 3 4 _ _ _ _ _ hW5
  replace f : W5.heap[W.heap.size]? = some (.cells [.int .i64 k0, .int .i64 i0, .int .u64 b0, .string s0, .int .u64 r0, .int .i64 0, .int .i64 0, .int .u64 0, .string ⟨#[]⟩, .int .u64 0].toArray 47 (0, 0)) := f
  replace HV := hid hB5
  replace hw0 := (far _ _ hWW).trans hw0
  replace hw1 := (far _ _ hWW).trans hw1
  clear hW5 F cv zv e13 far hB5
  go_wp2
  rw [rounds_succ]
  go_upto_region 8 with (go_at_call 18; (with_reducible refine (cu1 _ HV.out).mono ?_); rintro e W2 ⟨rfl, hB2⟩; clear cu1)
  have hB3 : Below W2.heap.size W2 (W2.alloc (.cells #[.int .i64 k1, .int .i64 i1, .int .u64 b1, .string s1, .int .u64 r1] 47)) := (Below.refl _ W2).alloc (Nat.le_refl _) _
  have hB4 := hB2.trans (hB3.mono hB2.size)
  replace HV := hid (HV.out.trans (hB4.mono HV.out.size))
  replace f := row_below f hB4
  replace hw0 := cell_keep hB4 hw0
  replace hw1 := cell_keep hB4 hw1
  have e13 := World.cell?_alloc_new W2 #[.int .i64 k1, .int .i64 i1, .int .u64 b1, .string s1, .int .u64 r1] 47
  have cv := row_cells f
  have zv := row_thaw f
  clear hB2 hB3 hB4
  generalize W2.heap.size = b13 at *
  generalize W2.alloc (.cells #[.int .i64 k1, .int .i64 i1, .int .u64 b1, .string s1, .int .u64 r1] 47) = W3 at *
  have F := hid f
  clear f
  go_upto_region 9 with fail
  generalize hW5 : World.setCell _ _ _ = W5
  obtain ⟨f, hB5, far⟩ := set5 F.out HV.out (Nat.le_refl _) 5 6 7 8 9 _ _ _ _ _ hW5
  replace f : W5.heap[W.heap.size]? = some (.cells [.int .i64 k0, .int .i64 i0, .int .u64 b0, .string s0, .int .u64 r0, .int .i64 k1, .int .i64 i1, .int .u64 b1, .string s1, .int .u64 r1].toArray 47 (0, 0)) := f
  replace HV := hid hB5
  replace hw0 := (far _ _ hWW).trans hw0
  replace hw1 := (far _ _ hWW).trans hw1
  clear hW5 F cv zv e13 far hB5
  go_wp2
  rw [rounds_succ]
  go_upto_region 10 with fail
  have hBa : Below W5.heap.size W5 (W5.alloc (.cells #[.slice o1 rs.length cap1, .slice (some ⟨wb, 0, none⟩) 2 2] 31)) := (Below.refl _ W5).alloc (Nat.le_refl _) _
  have e0 := World.cell?_alloc_new W5 #[.slice o1 rs.length cap1, .slice (some ⟨wb, 0, none⟩) 2 2] 31
  have ww : WordsAt W5 (.slice (some ⟨wb, 0, none⟩) 2 2) [a, b] := words_of2 hw0 hw1 lt0 lt1
  have cs := sconcat_c (W5.alloc (.cells #[.slice o1 rs.length cap1, .slice (some ⟨wb, 0, none⟩) 2 2] 31)) W5.heap.size 2 _ _ rs [a, b] (e0 0) (e0 1) (words_below (words_below HR.out HV.out) hBa) (words_below ww hBa) (by simp only [List.length_cons, List.length_nil]; omega) (by simp)
  have cx : ∀ (w2 : World) (v : Value), Below (W5.alloc (.cells #[.slice o1 rs.length cap1, .slice (some ⟨wb, 0, none⟩) 2 2] 31)).heap.size (W5.alloc (.cells #[.slice o1 rs.length cap1, .slice (some ⟨wb, 0, none⟩) 2 2] 31)) w2 → WordsAt w2 v (rs ++ [a, b]) → Calls Tryz.prog kf #[.agg #[.pointer (some ⟨hb, 0, none⟩), .slice (some ⟨wb, 0, none⟩) 2 2, .slice (some ⟨W.heap.size, 0, none⟩) 2 2, v], .pointer (some ⟨cp, 0, none⟩)] w2 R := by
    intro w2 v hB hv
    have hBb := hBa.trans (hB.mono hBa.size)
    exact cj w2 W.heap.size v (HV.out.trans (hBb.mono HV.out.size)) (row_cells (row_below f hBb)) hv
  clear cj f ww e0 hBa HR HV hw0 hw1
  go_wp2_with (first | (go_at_call 44; (with_reducible refine cs.mono ?_); rintro e w2 ⟨v, rfl, hB2, hw2⟩; (obtain ⟨o2, cap2, hv2, -⟩ := id hw2); (rw [show (rs ++ [a, b]).length = rs.length + 2 from by simp] at hv2); subst hv2; clear cs) | (go_at_fn kf; (with_reducible refine (cx _ _ hB2 hw2).mono ?_); intro e w3 h3; (obtain ⟨x, y, rfl⟩ := T.out e w3 h3); clear cx))
  exact h3
set_option maxRecDepth 100000 in
set_option maxHeartbeats 1000000 in
theorem done1_g (W : World) (hb wb : Nat) (a : Nat) (kf : Nat) (eg : ∀ args w, (callFunc kf args).run Tryz.prog w = .ok (.enter kf args) w) (vr : Value) (rs : List Nat) (hr : WordsAt W vr rs) (hl : rs.length ≤ 999000) (k0 i0 b0 r0 : Int) (s0 : ByteArray) (hw0 : W.cell? ⟨wb, 0, none⟩ = some (.int .u64 (a : Nat))) (lt0 : a < 18446744073709551616)
    (cu0 : ∀ w', Below W.heap.size W w' → Calls Tryz.prog 18 #[.pointer (some ⟨hb, 0, none⟩), .int .u64 (a : Nat)] w' fun e w'' => e = .returned (.tuple #[.agg #[.int .i64 k0, .int .i64 i0, .int .u64 b0, .string s0, .int .u64 r0], .int .i64 0]) ∧ Below w'.heap.size w' w'')
    {R : Ending → World → Prop} (two : ∀ e w', R e w' → ∃ x y, e = .returned (.tuple #[.int .u64 x, .int .i64 y]))
    (cj : ∀ (w' : World) (vb : Nat) (vr' : Value), Below W.heap.size W w' → (∀ j, w'.cell? ⟨vb, j, none⟩ = #[.int .i64 k0, .int .i64 i0, .int .u64 b0, .string s0, .int .u64 r0][j]?) → WordsAt w' vr' (rs ++ [a]) → Calls Tryz.prog kf #[.agg #[.pointer (some ⟨hb, 0, none⟩), .slice (some ⟨wb, 0, none⟩) 1 1, .slice (some ⟨vb, 0, none⟩) 1 1, vr']] w' R) :
    Calls Tryz.prog 15 #[.pointer (some ⟨hb, 0, none⟩), .func (.func kf) #[] #[], .slice (some ⟨wb, 0, none⟩) 1 1, vr] W R := by
  have T := hid two
  clear two
  have hmk := make1 W
  have hB1 : Below W.heap.size W (W.alloc (.cells #[.int .i64 0, .int .i64 0, .int .u64 0, .string ⟨#[]⟩, .int .u64 0] 47)) := (Below.refl _ W).alloc (Nat.le_refl _) _
  have f1 : (W.alloc (.cells [.int .i64 0, .int .i64 0, .int .u64 0, .string ⟨#[]⟩, .int .u64 0].toArray 47)).heap[W.heap.size]? = some (.cells [.int .i64 0, .int .i64 0, .int .u64 0, .string ⟨#[]⟩, .int .u64 0].toArray 47 (0, 0)) := World.alloc_heap_new W (.cells #[.int .i64 0, .int .i64 0, .int .u64 0, .string ⟨#[]⟩, .int .u64 0] 47)
  obtain ⟨o1, cap1, hvr, -⟩ := id hr
  subst hvr
  have hWB : Hid (W.heap.size ≤ W.heap.size) := Nat.le_refl _
  go_enter Tryz.func15, Tryz.ntmps15
  go_upto_region 3 with fail
  have hWW : wb ≠ W.heap.size := by have := cell_lt hw0; omega
  have HV := hid hB1
  have HR := hid hr
  clear hmk hr hB1
  have f := f1
  clear f1
  replace hw0 := cell_keep HV.out hw0
  generalize hW1 : W.alloc (.cells #[.int .i64 0, .int .i64 0, .int .u64 0, .string ⟨#[]⟩, .int .u64 0] 47) = W1 at *
  clear hW1
  go_wp2
  refine wp_loop_rounds 2 ?_
  rw [rounds_succ]
  go_upto_region 8 with (go_at_call 18; (with_reducible refine (cu0 _ HV.out).mono ?_); rintro e W2 ⟨rfl, hB2⟩; clear cu0)
  have hB3 : Below W2.heap.size W2 (W2.alloc (.cells #[.int .i64 k0, .int .i64 i0, .int .u64 b0, .string s0, .int .u64 r0] 47)) := (Below.refl _ W2).alloc (Nat.le_refl _) _
  have hB4 := hB2.trans (hB3.mono hB2.size)
  replace HV := hid (HV.out.trans (hB4.mono HV.out.size))
  replace f := row_below f hB4
  replace hw0 := cell_keep hB4 hw0
  have e13 := World.cell?_alloc_new W2 #[.int .i64 k0, .int .i64 i0, .int .u64 b0, .string s0, .int .u64 r0] 47
  have cv := row_cells f
  have zv := row_thaw f
  clear hB2 hB3 hB4
  generalize W2.heap.size = b13 at *
  generalize W2.alloc (.cells #[.int .i64 k0, .int .i64 i0, .int .u64 b0, .string s0, .int .u64 r0] 47) = W3 at *
  have F := hid f
  clear f
  go_upto_region 9 with fail
  generalize hW5 : World.setCell _ _ _ = W5
  obtain ⟨f, hB5, far⟩ := set5 F.out HV.out (Nat.le_refl _) 0 1 2 3 4 _ _ _ _ _ hW5
  replace f : W5.heap[W.heap.size]? = some (.cells [.int .i64 k0, .int .i64 i0, .int .u64 b0, .string s0, .int .u64 r0].toArray 47 (0, 0)) := f
  replace HV := hid hB5
  replace hw0 := (far _ _ hWW).trans hw0
  clear hW5 F cv zv e13 far hB5
  go_wp2
  rw [rounds_succ]
  go_upto_region 10 with fail
  have hBa : Below W5.heap.size W5 (W5.alloc (.cells #[.slice o1 rs.length cap1, .slice (some ⟨wb, 0, none⟩) 1 1] 31)) := (Below.refl _ W5).alloc (Nat.le_refl _) _
  have e0 := World.cell?_alloc_new W5 #[.slice o1 rs.length cap1, .slice (some ⟨wb, 0, none⟩) 1 1] 31
  have ww : WordsAt W5 (.slice (some ⟨wb, 0, none⟩) 1 1) [a] := words_of1 hw0 lt0
  have cs := sconcat_c (W5.alloc (.cells #[.slice o1 rs.length cap1, .slice (some ⟨wb, 0, none⟩) 1 1] 31)) W5.heap.size 2 _ _ rs [a] (e0 0) (e0 1) (words_below (words_below HR.out HV.out) hBa) (words_below ww hBa) (by simp only [List.length_cons, List.length_nil]; omega) (by simp)
  have cx : ∀ (w2 : World) (v : Value), Below (W5.alloc (.cells #[.slice o1 rs.length cap1, .slice (some ⟨wb, 0, none⟩) 1 1] 31)).heap.size (W5.alloc (.cells #[.slice o1 rs.length cap1, .slice (some ⟨wb, 0, none⟩) 1 1] 31)) w2 → WordsAt w2 v (rs ++ [a]) → Calls Tryz.prog kf #[.agg #[.pointer (some ⟨hb, 0, none⟩), .slice (some ⟨wb, 0, none⟩) 1 1, .slice (some ⟨W.heap.size, 0, none⟩) 1 1, v]] w2 R := by
    intro w2 v hB hv
    have hBb := hBa.trans (hB.mono hBa.size)
    exact cj w2 W.heap.size v (HV.out.trans (hBb.mono HV.out.size)) (row_cells (row_below f hBb)) hv
  clear cj f ww e0 hBa HR HV hw0
  go_wp2_with (first | (go_at_call 44; (with_reducible refine cs.mono ?_); rintro e w2 ⟨v, rfl, hB2, hw2⟩; (obtain ⟨o2, cap2, hv2, -⟩ := id hw2); (rw [show (rs ++ [a]).length = rs.length + 1 from by simp] at hv2); subst hv2; clear cs) | (go_at_fn kf; (with_reducible refine (cx _ _ hB2 hw2).mono ?_); intro e w3 h3; (obtain ⟨x, y, rfl⟩ := T.out e w3 h3); clear cx))
  exact h3
end Go.Proofs.YtgmimmdojkoppaaGreatDoor.W.Nu
