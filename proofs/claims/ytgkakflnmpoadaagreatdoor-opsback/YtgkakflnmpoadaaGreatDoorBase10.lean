import Derived.Test.YtgkakflnmpoadaaGreatDoorBase1
import Derived.Test.YtgkakflnmpoadaaGreatDoorBase9
import Derived.Shelf.Abstract
import Derived.Test.YtgkakflnmpoadaaGreatDoorBase0
/- Package ops: done, over Unbox's and the job's contracts. -/
namespace Go.Proofs.YtgkakflnmpoadaaGreatDoor.W.Nu
open Go.ChangeShapes Go.WideShapes Go.RowKit Go.Shelf
set_option linter.unusedVariables false
theorem row_cells {w : World} {b : Nat} {l : List Value} {t : TypeId} (h : w.heap[b]? = some (.cells l.toArray t (0, 0))) : ∀ j, w.cell? ⟨b, j, none⟩ = l.toArray[j]? := fun j => cell_of_row _ b j _ _ _ h
theorem row_thaw {w : World} {b : Nat} {l : List Value} {t : TypeId} (h : w.heap[b]? = some (.cells l.toArray t (0, 0))) : ∀ j, w.frozen? ⟨b, j, none⟩ = false := fun j => by simp only [World.frozen?, h]; simp
theorem set5 {w A W5 : World} {b B : Nat} {l : List Value} {t : TypeId} (f : w.heap[b]? = some (.cells l.toArray t (0, 0))) (HB : Below B A w) (hb : B ≤ b) (o0 o1 o2 o3 o4 : Nat) (x0 x1 x2 x3 x4 : Value) (hW : ((((w.setCell ⟨b, o0, none⟩ x0).setCell ⟨b, o1, none⟩ x1).setCell ⟨b, o2, none⟩ x2).setCell ⟨b, o3, none⟩ x3).setCell ⟨b, o4, none⟩ x4 = W5) :
    W5.heap[b]? = some (.cells (((((l.set o0 x0).set o1 x1).set o2 x2).set o3 x3).set o4 x4).toArray t (0, 0)) ∧ Below B A W5 ∧ (∀ (n i : Nat), n ≠ b → W5.cell? ⟨n, i, none⟩ = w.cell? ⟨n, i, none⟩) := by
  subst hW
  refine ⟨W.heap_set (W.heap_set (W.heap_set (W.heap_set (W.heap_set f o0 x0) o1 x1) o2 x2) o3 x3) o4 x4, ((((HB.setCell (p := ⟨b, o0, none⟩) hb x0).setCell (p := ⟨b, o1, none⟩) hb x1).setCell (p := ⟨b, o2, none⟩) hb x2).setCell (p := ⟨b, o3, none⟩) hb x3).setCell (p := ⟨b, o4, none⟩) hb x4, fun n i h => ?_⟩
  rw [World.cell?_setCell_far _ _ _ _ (fun e => h e.symm), World.cell?_setCell_far _ _ _ _ (fun e => h e.symm), World.cell?_setCell_far _ _ _ _ (fun e => h e.symm), World.cell?_setCell_far _ _ _ _ (fun e => h e.symm), World.cell?_setCell_far _ _ _ _ (fun e => h e.symm)]
theorem words_of2 {w : World} {wb a b : Nat} (h0 : w.cell? ⟨wb, 0, none⟩ = some (.int .u64 (a : Nat))) (h1 : w.cell? ⟨wb, 1, none⟩ = some (.int .u64 (b : Nat))) (l0 : a < 18446744073709551616) (l1 : b < 18446744073709551616) : WordsAt w (.slice (some ⟨wb, 0, none⟩) 2 2) [a, b] := by
  refine ⟨_, _, rfl, by simp, fun x hx => by simp at hx; rcases hx with rfl | rfl <;> assumption, fun i hi => ⟨_, rfl, ?_⟩⟩
  have e1 : ((⟨wb, 0, none⟩ : Addr).add i) = ⟨wb, i, none⟩ := by unfold Addr.add; split <;> simp_all
  have : i = 0 ∨ i = 1 := by simp at hi; omega
  rw [e1]
  rcases this with rfl | rfl
  · exact h0
  · exact h1
theorem words_of1 {w : World} {wb a : Nat} (h0 : w.cell? ⟨wb, 0, none⟩ = some (.int .u64 (a : Nat))) (l0 : a < 18446744073709551616) : WordsAt w (.slice (some ⟨wb, 0, none⟩) 1 1) [a] := by
  refine ⟨_, _, rfl, by simp, fun x hx => by simp at hx; rw [hx]; exact l0, fun i hi => ⟨_, rfl, ?_⟩⟩
  have e1 : ((⟨wb, 0, none⟩ : Addr).add i) = ⟨wb, i, none⟩ := by unfold Addr.add; split <;> simp_all
  have : i = 0 := by simp at hi; omega
  subst this
  rw [e1]
  exact h0
theorem row_below {w w' : World} {b : Nat} {o : Obj} (h : w.heap[b]? = some o) (hB : Below w.heap.size w w') : w'.heap[b]? = some o := (hB.block b (Array.getElem?_eq_some_iff.1 h).1).trans h
set_option maxRecDepth 100000 in
set_option maxHeartbeats 1000000 in
theorem done2_g (W : World) (hb wb : Nat) (a b : Nat) (kf : Nat) (eg : ∀ args w, (callFunc kf args).run Tryz.prog w = .ok (.enter kf args) w) (vr : Value) (rs : List Nat) (hr : WordsAt W vr rs) (hl : rs.length ≤ 999000) (k0 i0 b0 r0 : Int) (s0 : ByteArray) (k1 i1 b1 r1 : Int) (s1 : ByteArray) (hw0 : W.cell? ⟨wb, 0, none⟩ = some (.int .u64 (a : Nat))) (hw1 : W.cell? ⟨wb, 1, none⟩ = some (.int .u64 (b : Nat))) (lt0 : a < 18446744073709551616) (lt1 : b < 18446744073709551616)
    (cu0 : ∀ w', Below W.heap.size W w' → Calls Tryz.prog 14 #[.pointer (some ⟨hb, 0, none⟩), .int .u64 (a : Nat)] w' fun e w'' => e = .returned (.tuple #[.agg #[.int .i64 k0, .int .i64 i0, .int .u64 b0, .string s0, .int .u64 r0], .int .i64 0]) ∧ Below w'.heap.size w' w'') (cu1 : ∀ w', Below W.heap.size W w' → Calls Tryz.prog 14 #[.pointer (some ⟨hb, 0, none⟩), .int .u64 (b : Nat)] w' fun e w'' => e = .returned (.tuple #[.agg #[.int .i64 k1, .int .i64 i1, .int .u64 b1, .string s1, .int .u64 r1], .int .i64 0]) ∧ Below w'.heap.size w' w'')
    {R : Ending → World → Prop} (two : ∀ e w', R e w' → ∃ x y, e = .returned (.tuple #[.int .u64 x, .int .i64 y]))
    (cj : ∀ (w' : World) (vb : Nat) (vr' : Value), Below W.heap.size W w' → (∀ j, w'.cell? ⟨vb, j, none⟩ = #[.int .i64 k0, .int .i64 i0, .int .u64 b0, .string s0, .int .u64 r0, .int .i64 k1, .int .i64 i1, .int .u64 b1, .string s1, .int .u64 r1][j]?) → WordsAt w' vr' (rs ++ [a, b]) → Calls Tryz.prog kf #[.agg #[.pointer (some ⟨hb, 0, none⟩), .slice (some ⟨wb, 0, none⟩) 2 2, .slice (some ⟨vb, 0, none⟩) 2 2, vr']] w' R) :
    Calls Tryz.prog 13 #[.pointer (some ⟨hb, 0, none⟩), .func (.func kf) #[] #[], .slice (some ⟨wb, 0, none⟩) 2 2, vr] W R := by
  have T := hid two
  clear two
  have hmk := make2 W
  have hB1 : Below W.heap.size W (W.alloc (.cells #[.int .i64 0, .int .i64 0, .int .u64 0, .string ⟨#[]⟩, .int .u64 0, .int .i64 0, .int .i64 0, .int .u64 0, .string ⟨#[]⟩, .int .u64 0] 46)) := (Below.refl _ W).alloc (Nat.le_refl _) _
  have f1 : (W.alloc (.cells [.int .i64 0, .int .i64 0, .int .u64 0, .string ⟨#[]⟩, .int .u64 0, .int .i64 0, .int .i64 0, .int .u64 0, .string ⟨#[]⟩, .int .u64 0].toArray 46)).heap[W.heap.size]? = some (.cells [.int .i64 0, .int .i64 0, .int .u64 0, .string ⟨#[]⟩, .int .u64 0, .int .i64 0, .int .i64 0, .int .u64 0, .string ⟨#[]⟩, .int .u64 0].toArray 46 (0, 0)) := World.alloc_heap_new W (.cells #[.int .i64 0, .int .i64 0, .int .u64 0, .string ⟨#[]⟩, .int .u64 0, .int .i64 0, .int .i64 0, .int .u64 0, .string ⟨#[]⟩, .int .u64 0] 46)
  obtain ⟨o1, cap1, hvr, -⟩ := id hr
  subst hvr
  have hWB : Hid (W.heap.size ≤ W.heap.size) := Nat.le_refl _
  go_enter Tryz.func13, Tryz.ntmps13
  go_upto_region 3 with fail
  have hWW : wb ≠ W.heap.size := by have := cell_lt hw0; omega
  have HV := hid hB1
  have HR := hid hr
  clear hmk hr hB1
  have f := f1
  clear f1
  replace hw0 := cell_keep HV.out hw0
  replace hw1 := cell_keep HV.out hw1
  generalize hW1 : W.alloc (.cells #[.int .i64 0, .int .i64 0, .int .u64 0, .string ⟨#[]⟩, .int .u64 0, .int .i64 0, .int .i64 0, .int .u64 0, .string ⟨#[]⟩, .int .u64 0] 46) = W1 at *
  clear hW1
  go_wp2
  refine wp_loop_rounds 3 ?_
  rw [rounds_succ]
  go_upto_region 8 with (go_at_call 14; (with_reducible refine (cu0 _ HV.out).mono ?_); rintro e W2 ⟨rfl, hB2⟩; clear cu0)
  have hB3 : Below W2.heap.size W2 (W2.alloc (.cells #[.int .i64 k0, .int .i64 i0, .int .u64 b0, .string s0, .int .u64 r0] 46)) := (Below.refl _ W2).alloc (Nat.le_refl _) _
  have hB4 := hB2.trans (hB3.mono hB2.size)
  replace HV := hid (HV.out.trans (hB4.mono HV.out.size))
  replace f := row_below f hB4
  replace hw0 := cell_keep hB4 hw0
  replace hw1 := cell_keep hB4 hw1
  have e13 := World.cell?_alloc_new W2 #[.int .i64 k0, .int .i64 i0, .int .u64 b0, .string s0, .int .u64 r0] 46
  have cv := row_cells f
  have zv := row_thaw f
  clear hB2 hB3 hB4
  generalize W2.heap.size = b13 at *
  generalize W2.alloc (.cells #[.int .i64 k0, .int .i64 i0, .int .u64 b0, .string s0, .int .u64 r0] 46) = W3 at *
  have F := hid f
  clear f
  go_upto_region 9 with fail
  generalize hW5 : World.setCell _ _ _ = W5
  obtain ⟨f, hB5, far⟩ := set5 F.out HV.out (Nat.le_refl _) 0 1 2 3 4 _ _ _ _ _ hW5
  replace f : W5.heap[W.heap.size]? = some (.cells [.int .i64 k0, .int .i64 i0, .int .u64 b0, .string s0, .int .u64 r0, .int .i64 0, .int .i64 0, .int .u64 0, .string ⟨#[]⟩, .int .u64 0].toArray 46 (0, 0)) := f
  replace HV := hid hB5
  replace hw0 := (far _ _ hWW).trans hw0
  replace hw1 := (far _ _ hWW).trans hw1
  clear hW5 F cv zv e13 far hB5
  go_wp2
  rw [rounds_succ]
  go_upto_region 8 with (go_at_call 14; (with_reducible refine (cu1 _ HV.out).mono ?_); rintro e W2 ⟨rfl, hB2⟩; clear cu1)
  have hB3 : Below W2.heap.size W2 (W2.alloc (.cells #[.int .i64 k1, .int .i64 i1, .int .u64 b1, .string s1, .int .u64 r1] 46)) := (Below.refl _ W2).alloc (Nat.le_refl _) _
  have hB4 := hB2.trans (hB3.mono hB2.size)
  replace HV := hid (HV.out.trans (hB4.mono HV.out.size))
  replace f := row_below f hB4
  replace hw0 := cell_keep hB4 hw0
  replace hw1 := cell_keep hB4 hw1
  have e13 := World.cell?_alloc_new W2 #[.int .i64 k1, .int .i64 i1, .int .u64 b1, .string s1, .int .u64 r1] 46
  have cv := row_cells f
  have zv := row_thaw f
  clear hB2 hB3 hB4
  generalize W2.heap.size = b13 at *
  generalize W2.alloc (.cells #[.int .i64 k1, .int .i64 i1, .int .u64 b1, .string s1, .int .u64 r1] 46) = W3 at *
  have F := hid f
  clear f
  go_upto_region 9 with fail
  generalize hW5 : World.setCell _ _ _ = W5
  obtain ⟨f, hB5, far⟩ := set5 F.out HV.out (Nat.le_refl _) 5 6 7 8 9 _ _ _ _ _ hW5
  replace f : W5.heap[W.heap.size]? = some (.cells [.int .i64 k0, .int .i64 i0, .int .u64 b0, .string s0, .int .u64 r0, .int .i64 k1, .int .i64 i1, .int .u64 b1, .string s1, .int .u64 r1].toArray 46 (0, 0)) := f
  replace HV := hid hB5
  replace hw0 := (far _ _ hWW).trans hw0
  replace hw1 := (far _ _ hWW).trans hw1
  clear hW5 F cv zv e13 far hB5
  go_wp2
  rw [rounds_succ]
  go_upto_region 10 with fail
  have hBa : Below W5.heap.size W5 (W5.alloc (.cells #[.slice o1 rs.length cap1, .slice (some ⟨wb, 0, none⟩) 2 2] 31)) := (Below.refl _ W5).alloc (Nat.le_refl _) _
  have e0 := World.cell?_alloc_new W5 #[.slice o1 rs.length cap1, .slice (some ⟨wb, 0, none⟩) 2 2] 31
  have ww : WordsAt W5 (.slice (some ⟨wb, 0, none⟩) 2 2) [a, b] := words_of2 hw0 hw1 lt0 lt1
  have cs := sconcat_c (W5.alloc (.cells #[.slice o1 rs.length cap1, .slice (some ⟨wb, 0, none⟩) 2 2] 31)) W5.heap.size 2 _ _ rs [a, b] (e0 0) (e0 1) (words_below (words_below HR.out HV.out) hBa) (words_below ww hBa) (by simp only [List.length_cons, List.length_nil]; omega) (by simp)
  have cx : ∀ (w2 : World) (v : Value), Below (W5.alloc (.cells #[.slice o1 rs.length cap1, .slice (some ⟨wb, 0, none⟩) 2 2] 31)).heap.size (W5.alloc (.cells #[.slice o1 rs.length cap1, .slice (some ⟨wb, 0, none⟩) 2 2] 31)) w2 → WordsAt w2 v (rs ++ [a, b]) → Calls Tryz.prog kf #[.agg #[.pointer (some ⟨hb, 0, none⟩), .slice (some ⟨wb, 0, none⟩) 2 2, .slice (some ⟨W.heap.size, 0, none⟩) 2 2, v]] w2 R := by
    intro w2 v hB hv
    have hBb := hBa.trans (hB.mono hBa.size)
    exact cj w2 W.heap.size v (HV.out.trans (hBb.mono HV.out.size)) (row_cells (row_below f hBb)) hv
  clear cj f ww e0 hBa HR HV hw0 hw1
  go_wp2_with (first | (go_at_call 40; (with_reducible refine cs.mono ?_); rintro e w2 ⟨v, rfl, hB2, hw2⟩; (obtain ⟨o2, cap2, hv2, -⟩ := id hw2); (rw [show (rs ++ [a, b]).length = rs.length + 2 from by simp] at hv2); subst hv2; clear cs) | (go_at_fn kf; (with_reducible refine (cx _ _ hB2 hw2).mono ?_); intro e w3 h3; (obtain ⟨x, y, rfl⟩ := T.out e w3 h3); clear cx))
  exact h3
set_option maxRecDepth 100000 in
set_option maxHeartbeats 1000000 in
theorem done1_g (W : World) (hb wb : Nat) (a : Nat) (kf : Nat) (eg : ∀ args w, (callFunc kf args).run Tryz.prog w = .ok (.enter kf args) w) (vr : Value) (rs : List Nat) (hr : WordsAt W vr rs) (hl : rs.length ≤ 999000) (k0 i0 b0 r0 : Int) (s0 : ByteArray) (hw0 : W.cell? ⟨wb, 0, none⟩ = some (.int .u64 (a : Nat))) (lt0 : a < 18446744073709551616)
    (cu0 : ∀ w', Below W.heap.size W w' → Calls Tryz.prog 14 #[.pointer (some ⟨hb, 0, none⟩), .int .u64 (a : Nat)] w' fun e w'' => e = .returned (.tuple #[.agg #[.int .i64 k0, .int .i64 i0, .int .u64 b0, .string s0, .int .u64 r0], .int .i64 0]) ∧ Below w'.heap.size w' w'')
    {R : Ending → World → Prop} (two : ∀ e w', R e w' → ∃ x y, e = .returned (.tuple #[.int .u64 x, .int .i64 y]))
    (cj : ∀ (w' : World) (vb : Nat) (vr' : Value), Below W.heap.size W w' → (∀ j, w'.cell? ⟨vb, j, none⟩ = #[.int .i64 k0, .int .i64 i0, .int .u64 b0, .string s0, .int .u64 r0][j]?) → WordsAt w' vr' (rs ++ [a]) → Calls Tryz.prog kf #[.agg #[.pointer (some ⟨hb, 0, none⟩), .slice (some ⟨wb, 0, none⟩) 1 1, .slice (some ⟨vb, 0, none⟩) 1 1, vr']] w' R) :
    Calls Tryz.prog 13 #[.pointer (some ⟨hb, 0, none⟩), .func (.func kf) #[] #[], .slice (some ⟨wb, 0, none⟩) 1 1, vr] W R := by
  have T := hid two
  clear two
  have hmk := make1 W
  have hB1 : Below W.heap.size W (W.alloc (.cells #[.int .i64 0, .int .i64 0, .int .u64 0, .string ⟨#[]⟩, .int .u64 0] 46)) := (Below.refl _ W).alloc (Nat.le_refl _) _
  have f1 : (W.alloc (.cells [.int .i64 0, .int .i64 0, .int .u64 0, .string ⟨#[]⟩, .int .u64 0].toArray 46)).heap[W.heap.size]? = some (.cells [.int .i64 0, .int .i64 0, .int .u64 0, .string ⟨#[]⟩, .int .u64 0].toArray 46 (0, 0)) := World.alloc_heap_new W (.cells #[.int .i64 0, .int .i64 0, .int .u64 0, .string ⟨#[]⟩, .int .u64 0] 46)
  obtain ⟨o1, cap1, hvr, -⟩ := id hr
  subst hvr
  have hWB : Hid (W.heap.size ≤ W.heap.size) := Nat.le_refl _
  go_enter Tryz.func13, Tryz.ntmps13
  go_upto_region 3 with fail
  have hWW : wb ≠ W.heap.size := by have := cell_lt hw0; omega
  have HV := hid hB1
  have HR := hid hr
  clear hmk hr hB1
  have f := f1
  clear f1
  replace hw0 := cell_keep HV.out hw0
  generalize hW1 : W.alloc (.cells #[.int .i64 0, .int .i64 0, .int .u64 0, .string ⟨#[]⟩, .int .u64 0] 46) = W1 at *
  clear hW1
  go_wp2
  refine wp_loop_rounds 2 ?_
  rw [rounds_succ]
  go_upto_region 8 with (go_at_call 14; (with_reducible refine (cu0 _ HV.out).mono ?_); rintro e W2 ⟨rfl, hB2⟩; clear cu0)
  have hB3 : Below W2.heap.size W2 (W2.alloc (.cells #[.int .i64 k0, .int .i64 i0, .int .u64 b0, .string s0, .int .u64 r0] 46)) := (Below.refl _ W2).alloc (Nat.le_refl _) _
  have hB4 := hB2.trans (hB3.mono hB2.size)
  replace HV := hid (HV.out.trans (hB4.mono HV.out.size))
  replace f := row_below f hB4
  replace hw0 := cell_keep hB4 hw0
  have e13 := World.cell?_alloc_new W2 #[.int .i64 k0, .int .i64 i0, .int .u64 b0, .string s0, .int .u64 r0] 46
  have cv := row_cells f
  have zv := row_thaw f
  clear hB2 hB3 hB4
  generalize W2.heap.size = b13 at *
  generalize W2.alloc (.cells #[.int .i64 k0, .int .i64 i0, .int .u64 b0, .string s0, .int .u64 r0] 46) = W3 at *
  have F := hid f
  clear f
  go_upto_region 9 with fail
  generalize hW5 : World.setCell _ _ _ = W5
  obtain ⟨f, hB5, far⟩ := set5 F.out HV.out (Nat.le_refl _) 0 1 2 3 4 _ _ _ _ _ hW5
  replace f : W5.heap[W.heap.size]? = some (.cells [.int .i64 k0, .int .i64 i0, .int .u64 b0, .string s0, .int .u64 r0].toArray 46 (0, 0)) := f
  replace HV := hid hB5
  replace hw0 := (far _ _ hWW).trans hw0
  clear hW5 F cv zv e13 far hB5
  go_wp2
  rw [rounds_succ]
  go_upto_region 10 with fail
  have hBa : Below W5.heap.size W5 (W5.alloc (.cells #[.slice o1 rs.length cap1, .slice (some ⟨wb, 0, none⟩) 1 1] 31)) := (Below.refl _ W5).alloc (Nat.le_refl _) _
  have e0 := World.cell?_alloc_new W5 #[.slice o1 rs.length cap1, .slice (some ⟨wb, 0, none⟩) 1 1] 31
  have ww : WordsAt W5 (.slice (some ⟨wb, 0, none⟩) 1 1) [a] := words_of1 hw0 lt0
  have cs := sconcat_c (W5.alloc (.cells #[.slice o1 rs.length cap1, .slice (some ⟨wb, 0, none⟩) 1 1] 31)) W5.heap.size 2 _ _ rs [a] (e0 0) (e0 1) (words_below (words_below HR.out HV.out) hBa) (words_below ww hBa) (by simp only [List.length_cons, List.length_nil]; omega) (by simp)
  have cx : ∀ (w2 : World) (v : Value), Below (W5.alloc (.cells #[.slice o1 rs.length cap1, .slice (some ⟨wb, 0, none⟩) 1 1] 31)).heap.size (W5.alloc (.cells #[.slice o1 rs.length cap1, .slice (some ⟨wb, 0, none⟩) 1 1] 31)) w2 → WordsAt w2 v (rs ++ [a]) → Calls Tryz.prog kf #[.agg #[.pointer (some ⟨hb, 0, none⟩), .slice (some ⟨wb, 0, none⟩) 1 1, .slice (some ⟨W.heap.size, 0, none⟩) 1 1, v]] w2 R := by
    intro w2 v hB hv
    have hBb := hBa.trans (hB.mono hBa.size)
    exact cj w2 W.heap.size v (HV.out.trans (hBb.mono HV.out.size)) (row_cells (row_below f hBb)) hv
  clear cj f ww e0 hBa HR HV hw0
  go_wp2_with (first | (go_at_call 40; (with_reducible refine cs.mono ?_); rintro e w2 ⟨v, rfl, hB2, hw2⟩; (obtain ⟨o2, cap2, hv2, -⟩ := id hw2); (rw [show (rs ++ [a]).length = rs.length + 1 from by simp] at hv2); subst hv2; clear cs) | (go_at_fn kf; (with_reducible refine (cx _ _ hB2 hw2).mono ?_); intro e w3 h3; (obtain ⟨x, y, rfl⟩ := T.out e w3 h3); clear cx))
  exact h3
end Go.Proofs.YtgkakflnmpoadaaGreatDoor.W.Nu
/- Package ops: jobs on whole numbers, bit by bit. -/
namespace Go.Proofs.YtgkakflnmpoadaaGreatDoor.W.Nu
open Go.ChangeShapes Go.WideShapes Go.RowKit Go.Shelf
set_option linter.unusedVariables false
theorem below_drewN (w : World) (m : Nat) : Below w.heap.size w (w.drewN m) := ⟨rfl, rfl, rfl, Nat.le_refl _, fun _ _ => rfl⟩
section
variable {W : World} {hb vb : Nat} {vw vr : Value} {R : Ending → World → Prop}
end
end Go.Proofs.YtgkakflnmpoadaaGreatDoor.W.Nu
/- Package ops: jobs on one whole number. -/
namespace Go.Proofs.YtgkakflnmpoadaaGreatDoor.W.Nu
open Go.ChangeShapes Go.WideShapes Go.RowKit Go.Shelf
set_option linter.unusedVariables false
section
variable {W : World} {hb vb : Nat} {vw vr : Value} {R : Ending → World → Prop}
/-- ahead of a job of one value that was asked whether it is whole -/
theorem pre1 (i b0 r0 : Int) (s0 : ByteArray) (hv : ∀ k, W.cell? ⟨vb, k, none⟩ = #[.int .i64 2, .int .i64 i, .int .u64 b0, .string s0, .int .u64 r0][k]?) :
    let W1 := W.alloc (.cells #[.pointer (some ⟨hb, 0, none⟩), vw, .slice (some ⟨vb, 0, none⟩) 1 1, vr] 80)
    Below W.heap.size W W1 ∧ Below W1.heap.size W1 (W1.alloc (.cells #[.int .i64 0] 3)) ∧
    Calls Tryz.prog 58 #[.agg #[.pointer (some ⟨hb, 0, none⟩), vw, .slice (some ⟨vb, 0, none⟩) 1 1, vr], .int .i64 2, .slice (some ⟨W1.heap.size, 0, none⟩) 1 1] (W1.alloc (.cells #[.int .i64 0] 3)) (fun e w' => e = .returned (.bool true) ∧ Below (W1.alloc (.cells #[.int .i64 0] 3)).heap.size (W1.alloc (.cells #[.int .i64 0] 3)) w') ∧
    (∀ w', Below W1.heap.size W1 w' → (∀ k, w'.cell? ⟨W.heap.size, k, none⟩ = #[.pointer (some ⟨hb, 0, none⟩), vw, .slice (some ⟨vb, 0, none⟩) 1 1, vr][k]?) ∧ (∀ k, w'.cell? ⟨vb, k, none⟩ = #[.int .i64 2, .int .i64 i, .int .u64 b0, .string s0, .int .u64 r0][k]?)) := by
  intro W1
  have hB1 : Below W.heap.size W W1 := (Below.refl _ W).alloc (Nat.le_refl _) _
  have e1 := World.cell?_alloc_new W #[.pointer (some ⟨hb, 0, none⟩), vw, .slice (some ⟨vb, 0, none⟩) 1 1, vr] 80
  have vl : vb < W.heap.size := cell_lt (hv 0)
  have hv1 : ∀ k, W1.cell? ⟨vb, k, none⟩ = #[.int .i64 2, .int .i64 i, .int .u64 b0, .string s0, .int .u64 r0][k]? := fun k => by rw [hB1.cell (p := ⟨vb, k, none⟩) vl]; exact hv k
  have hB2 : Below W1.heap.size W1 (W1.alloc (.cells #[.int .i64 0] 3)) := (Below.refl _ W1).alloc (Nat.le_refl _) _
  have e2 := World.cell?_alloc_new W1 #[.int .i64 0] 3
  have l1 : W.heap.size < W1.heap.size := cell_lt (e1 0)
  refine ⟨hB1, hB2, are1_c _ hb vb W1.heap.size 1 vw vr 2 2 (by decide) (by decide) (e2 0) (cell_keep hB2 (hv1 0)), fun w' hB => ⟨fun k => ?_, fun k => ?_⟩⟩
  · rw [hB.cell (p := ⟨W.heap.size, k, none⟩) l1]; exact e1 k
  · rw [hB.cell (p := ⟨vb, k, none⟩) (by show vb < _; omega)]; exact hv1 k
theorem conv65 (w : World) : (convert 62 9 (.slice (some ⟨w.heap.size, 0, none⟩) 1 1)).run Tryz.prog (w.alloc (.cells #[.int .u8 65] 5)) = .ok (.string ⟨#[65]⟩) (w.alloc (.cells #[.int .u8 65] 5)) := by
  refine run_convert_bytes_back (P := Tryz.prog) _ 62 9 5 ⟨w.heap.size, 0, none⟩ 1 [65] Tryz.underlying62 Tryz.underlying5 Tryz.underlying9 (fun j hj => ?_)
  have h0 : j = 0 := by simp at hj; omega
  subst h0
  exact World.cell?_alloc_new w #[.int .u8 65] 5 0
set_option maxRecDepth 100000 in
theorem character65 (b0 r0 : Int) (s0 : ByteArray) (hv : ∀ k, W.cell? ⟨vb, k, none⟩ = #[.int .i64 2, .int .i64 65, .int .u64 b0, .string s0, .int .u64 r0][k]?)
    (cb : ∀ w', Below W.heap.size W w' → Calls Tryz.prog 11 #[.pointer (some ⟨hb, 0, none⟩), .agg #[.int .i64 4, .int .i64 0, .int .u64 0, .string ⟨#[65]⟩, .int .u64 0], vr] w' R) (two : ∀ e w', R e w' → ∃ x y, e = .returned (.tuple #[.int .u64 x, .int .i64 y])) :
    Calls Tryz.prog 32 #[.agg #[.pointer (some ⟨hb, 0, none⟩), vw, .slice (some ⟨vb, 0, none⟩) 1 1, vr]] W R := by
  obtain ⟨h1, h2, cA, hE⟩ := pre1 (hb := hb) (vw := vw) (vr := vr) 65 b0 r0 s0 hv
  have T := hid two
  have H1 := hid h1
  have H2 := hid h2
  have HE := hid hE
  clear two h1 h2 hE hv
  go_enter Tryz.func32, Tryz.ntmps32
  go_upto_region 1 with fail
  generalize W.alloc (.cells #[.pointer (some ⟨hb, 0, none⟩), vw, .slice (some ⟨vb, 0, none⟩) 1 1, vr] 80) = W1 at *
  obtain ⟨eC1, -⟩ := HE.out W1 (Below.refl _ _)
  go_upto_region 3 with (go_at_call 58; (with_reducible refine cA.mono ?_); rintro e W2 ⟨rfl, hB3⟩; clear cA)
  have hB4 := H2.out.trans (hB3.mono H2.out.size)
  obtain ⟨eC, eV⟩ := HE.out W2 hB4
  have cx : ∀ w1, Below W2.heap.size W2 w1 → Calls Tryz.prog 59 #[.agg #[.pointer (some ⟨hb, 0, none⟩), vw, .slice (some ⟨vb, 0, none⟩) 1 1, vr], .string ⟨#[65]⟩] w1 R := fun w1 h1 => boxText_g _ (fun w' h => cb w' (H1.out.trans ((hB4.trans ((h1.trans (h.mono h1.size)).mono hB4.size)).mono H1.out.size))) T.out
  clear hB3 cb eC1
  have hcv := conv65 W2
  have hB5 : Below W2.heap.size W2 (W2.alloc (.cells #[.int .u8 65] 5)) := (Below.refl _ W2).alloc (Nat.le_refl _) _
  have cy := cx _ hB5
  clear cx hB5
  go_wp2_with (go_at_call 59; (with_reducible refine cy.mono ?_); intro e w3 h3; (obtain ⟨x, y, rfl⟩ := T.out e w3 h3); clear cy)
  exact h3
end
end Go.Proofs.YtgkakflnmpoadaaGreatDoor.W.Nu
/- Package ops: jobs that reckon with two numbers. -/
namespace Go.Proofs.YtgkakflnmpoadaaGreatDoor.W.Nu
open Go.ChangeShapes Go.WideShapes Go.RowKit Go.Shelf
set_option linter.unusedVariables false
theorem reckons_c (g : Nat) (W : World) : Calls Tryz.prog 84 #[.func (.func g) #[] #[]] W fun e w' => e = .returned (.func (.func 126) #[] #[.pointer (some ⟨W.heap.size, 0, none⟩)]) ∧ w'.cell? ⟨W.heap.size, 0, none⟩ = some (.func (.func g) #[] #[]) ∧ Below W.heap.size W w' := by
  have hB : Below W.heap.size W (W.alloc (.cells #[.func (.func g) #[] #[]] 134)) := (Below.refl _ W).alloc (Nat.le_refl _) _
  have hc : (W.alloc (.cells #[.func (.func g) #[] #[]] 134)).cell? ⟨W.heap.size, 0, none⟩ = some (.func (.func g) #[] #[]) := by rw [World.cell?_alloc_new]; rfl
  have H := hid (And.intro hc hB)
  clear hc hB
  go_enter Tryz.func84, Tryz.ntmps84
  go_wp2
  go_ret
  exact ⟨rfl, H.out⟩
section
variable {W : World} {hb vb : Nat} {vw vr : Value} {R : Ending → World → Prop}
set_option maxRecDepth 100000 in
set_option maxHeartbeats 1000000 in
theorem reckons1_g (cp g : Nat) (eg : ∀ args w, (callFunc g args).run Tryz.prog w = .ok (.enter g args) w) (hc : W.cell? ⟨cp, 0, none⟩ = some (.func (.func g) #[] #[])) (a0 a1 xw : Bool) (x0 y0 x1 y1 xi xu : Int)
    (cn : ∀ w', Below W.heap.size W w' → Calls Tryz.prog 127 #[.agg #[.pointer (some ⟨hb, 0, none⟩), vw, .slice (some ⟨vb, 0, none⟩) 2 2, vr]] w' fun e w'' => e = .returned (.tuple #[.agg #[.bool a0, .int .i64 x0, .int .u64 y0], .agg #[.bool a1, .int .i64 x1, .int .u64 y1], .bool true]) ∧ Gr w' w'')
    (cg : ∀ w, Calls Tryz.prog g #[.agg #[.bool a0, .int .i64 x0, .int .u64 y0], .agg #[.bool a1, .int .i64 x1, .int .u64 y1]] w fun e w' => e = .returned (.tuple #[.agg #[.bool xw, .int .i64 xi, .int .u64 xu], .int .i64 0]) ∧ Gr w w')
    (cb : ∀ w', Below W.heap.size W w' → Calls Tryz.prog 61 #[.agg #[.pointer (some ⟨hb, 0, none⟩), vw, .slice (some ⟨vb, 0, none⟩) 2 2, vr], .agg #[.bool xw, .int .i64 xi, .int .u64 xu]] w' R) (two : ∀ e w', R e w' → ∃ x y, e = .returned (.tuple #[.int .u64 x, .int .i64 y])) :
    Calls Tryz.prog 126 #[.agg #[.pointer (some ⟨hb, 0, none⟩), vw, .slice (some ⟨vb, 0, none⟩) 2 2, vr], .pointer (some ⟨cp, 0, none⟩)] W R := by
  have hB1 : Below W.heap.size W (W.alloc (.cells #[.pointer (some ⟨hb, 0, none⟩), vw, .slice (some ⟨vb, 0, none⟩) 2 2, vr] 80)) := (Below.refl _ W).alloc (Nat.le_refl _) _
  have e1 := World.cell?_alloc_new W #[.pointer (some ⟨hb, 0, none⟩), vw, .slice (some ⟨vb, 0, none⟩) 2 2, vr] 80
  have T := hid two
  clear two
  have H1 := hid hB1
  have c1 := cn _ hB1
  clear cn
  replace hc := cell_keep hB1 hc
  clear hB1
  go_enter Tryz.func126, Tryz.ntmps126
  go_upto_region 1 with fail
  generalize W.alloc (.cells #[.pointer (some ⟨hb, 0, none⟩), vw, .slice (some ⟨vb, 0, none⟩) 2 2, vr] 80) = W1 at *
  go_upto_region 2 with (go_at_call 127; (with_reducible refine c1.mono ?_); rintro e W2 ⟨rfl, hg⟩; clear c1)
  have hB2 := hg.below
  have hB3 : Below W2.heap.size W2 ((W2.alloc (.cells #[.bool a0, .int .i64 x0, .int .u64 y0] 24)).alloc (.cells #[.bool a1, .int .i64 x1, .int .u64 y1] 24)) := ((Below.refl _ W2).alloc (Nat.le_refl _) _).alloc (by rw [World.size_alloc]; omega) _
  obtain ⟨fA, fB, -⟩ := (Gr.refl ((W2.alloc (.cells #[.bool a0, .int .i64 x0, .int .u64 y0] 24)).alloc (.cells #[.bool a1, .int .i64 x1, .int .u64 y1] 24))).two (Nat.zero_lt_succ _) (Nat.zero_lt_succ _)
  have hB4 := hB2.trans (hB3.mono hB2.size)
  have l1 : W.heap.size < W1.heap.size := cell_lt (e1 0)
  have eC : ∀ k, ((W2.alloc (.cells #[.bool a0, .int .i64 x0, .int .u64 y0] 24)).alloc (.cells #[.bool a1, .int .i64 x1, .int .u64 y1] 24)).cell? ⟨W.heap.size, k, none⟩ = #[.pointer (some ⟨hb, 0, none⟩), vw, .slice (some ⟨vb, 0, none⟩) 2 2, vr][k]? := fun k => by rw [hB4.cell (p := ⟨W.heap.size, k, none⟩) l1]; exact e1 k
  replace hc := cell_keep hB4 hc
  replace H1 := hid (H1.out.trans (hB4.mono H1.out.size))
  clear hg hB2 hB3 hB4 e1 l1
  generalize W2.heap.size + 1 = bB at *
  generalize W2.heap.size = bA at *
  generalize ((W2.alloc (.cells #[.bool a0, .int .i64 x0, .int .u64 y0] 24)).alloc (.cells #[.bool a1, .int .i64 x1, .int .u64 y1] 24)) = W3 at *
  go_upto_region 5 with (go_at_fn g; (with_reducible refine (cg _).mono ?_); rintro e W4 ⟨rfl, hg⟩; clear cg)
  have hB5 := hg.below
  have hB6 : Below W4.heap.size W4 (W4.alloc (.cells #[.bool xw, .int .i64 xi, .int .u64 xu] 24)) := (Below.refl _ W4).alloc (Nat.le_refl _) _
  have fN := World.cell?_alloc_new W4 #[.bool xw, .int .i64 xi, .int .u64 xu] 24
  have hB7 := hB5.trans (hB6.mono hB5.size)
  have l3 : W.heap.size < W3.heap.size := cell_lt (eC 0)
  have eD : ∀ k, (W4.alloc (.cells #[.bool xw, .int .i64 xi, .int .u64 xu] 24)).cell? ⟨W.heap.size, k, none⟩ = #[.pointer (some ⟨hb, 0, none⟩), vw, .slice (some ⟨vb, 0, none⟩) 2 2, vr][k]? := fun k => by rw [hB7.cell (p := ⟨W.heap.size, k, none⟩) l3]; exact eC k
  have cx := cb _ (H1.out.trans (hB7.mono H1.out.size))
  clear hg hB5 hB6 hB7 eC fA fB hc cb l3
  generalize W4.heap.size = bN at *
  generalize W4.alloc (.cells #[.bool xw, .int .i64 xi, .int .u64 xu] 24) = W5 at *
  go_wp2_with (go_at_call 61; (with_reducible refine cx.mono ?_); intro e w3 h3; (obtain ⟨x, y, rfl⟩ := T.out e w3 h3); clear cx)
  exact h3
end
end Go.Proofs.YtgkakflnmpoadaaGreatDoor.W.Nu
/- Package ops: plus; operators as functions; Binary and Unary over their jobs. -/
namespace Go.Proofs.YtgkakflnmpoadaaGreatDoor.W.Nu
open Go.ChangeShapes Go.WideShapes Go.RowKit Go.Shelf
set_option linter.unusedVariables false
theorem fn_eql (kf : Nat) (cs : Array Value) (w : World) : (binOp .eql 49 (.func (.func kf) #[] cs) .nilFunc).run Tryz.prog w = .ok (.bool false) w := by kernel_rfl
theorem fn_neq (kf : Nat) (cs : Array Value) (w : World) : (binOp .neq 49 (.func (.func kf) #[] cs) .nilFunc).run Tryz.prog w = .ok (.bool true) w := by kernel_rfl
theorem eg_reckons1 : ∀ args w, (callFunc 126 args).run Tryz.prog w = .ok (.enter 126 args) w := enters_of Tryz.func126 (by kernel_rfl) rfl
theorem eg_plus : ∀ args w, (callFunc 83 args).run Tryz.prog w = .ok (.enter 83 args) w := enters_of Tryz.func83 (by kernel_rfl) rfl
theorem eg_character : ∀ args w, (callFunc 32 args).run Tryz.prog w = .ok (.enter 32 args) w := enters_of Tryz.func32 (by kernel_rfl) rfl
section
variable {W : World} {hb vb : Nat} {vw vr : Value} {R : Ending → World → Prop}
set_option maxRecDepth 100000 in
theorem plus_g (k0 i0 b0 r0 k1 i1 b1 r1 : Int) (s0 s1 : ByteArray) (hk : ((k0 == 4) && (k1 == 4)) = false) (hv : ∀ k, W.cell? ⟨vb, k, none⟩ = #[.int .i64 k0, .int .i64 i0, .int .u64 b0, .string s0, .int .u64 r0, .int .i64 k1, .int .i64 i1, .int .u64 b1, .string s1, .int .u64 r1][k]?)
    (cr : ∀ (w' : World) (cp : Nat), Below W.heap.size W w' → w'.cell? ⟨cp, 0, none⟩ = some (.func (.func 125) #[] #[]) → Calls Tryz.prog 126 #[.agg #[.pointer (some ⟨hb, 0, none⟩), vw, .slice (some ⟨vb, 0, none⟩) 2 2, vr], .pointer (some ⟨cp, 0, none⟩)] w' R) (two : ∀ e w', R e w' → ∃ x y, e = .returned (.tuple #[.int .u64 x, .int .i64 y])) :
    Calls Tryz.prog 83 #[.agg #[.pointer (some ⟨hb, 0, none⟩), vw, .slice (some ⟨vb, 0, none⟩) 2 2, vr]] W R := by
  have hB1 : Below W.heap.size W (W.alloc (.cells #[.pointer (some ⟨hb, 0, none⟩), vw, .slice (some ⟨vb, 0, none⟩) 2 2, vr] 80)) := (Below.refl _ W).alloc (Nat.le_refl _) _
  have e1 := World.cell?_alloc_new W #[.pointer (some ⟨hb, 0, none⟩), vw, .slice (some ⟨vb, 0, none⟩) 2 2, vr] 80
  have vl : vb < W.heap.size := cell_lt (hv 0)
  have T := hid two
  have er := eg_reckons1
  clear two
  go_enter Tryz.func83, Tryz.ntmps83
  go_upto_region 1 with fail
  generalize W.alloc (.cells #[.pointer (some ⟨hb, 0, none⟩), vw, .slice (some ⟨vb, 0, none⟩) 2 2, vr] 80) = W1 at *
  have hv1 : ∀ k, W1.cell? ⟨vb, k, none⟩ = #[.int .i64 k0, .int .i64 i0, .int .u64 b0, .string s0, .int .u64 r0, .int .i64 k1, .int .i64 i1, .int .u64 b1, .string s1, .int .u64 r1][k]? := fun k => by rw [hB1.cell (p := ⟨vb, k, none⟩) vl]; exact hv k
  have hB2 : Below W1.heap.size W1 (W1.alloc (.cells #[.int .i64 0, .int .i64 1] 3)) := (Below.refl _ W1).alloc (Nat.le_refl _) _
  have e2 := World.cell?_alloc_new W1 #[.int .i64 0, .int .i64 1] 3
  have cA := are2_c (W1.alloc (.cells #[.int .i64 0, .int .i64 1] 3)) hb vb W1.heap.size 2 vw vr 4 k0 k1 (by decide) (by decide) (e2 0) (e2 1) (cell_keep hB2 (hv1 0)) (cell_keep hB2 (hv1 5))
  rw [hk] at cA
  clear e2 hv hv1 hk vl
  have l1 : W.heap.size < W1.heap.size := cell_lt (e1 0)
  have H2 := hid hB2
  have H1 := hid hB1
  clear hB2 hB1
  go_upto_region 3 with (go_at_call 58; (with_reducible refine cA.mono ?_); rintro e W2 ⟨rfl, hB3⟩; clear cA)
  have hB4 := H2.out.trans (hB3.mono H2.out.size)
  have eC : ∀ k, W2.cell? ⟨W.heap.size, k, none⟩ = #[.pointer (some ⟨hb, 0, none⟩), vw, .slice (some ⟨vb, 0, none⟩) 2 2, vr][k]? := fun k => by rw [hB4.cell (p := ⟨W.heap.size, k, none⟩) l1]; exact e1 k
  have H4 := hid (H1.out.trans (hB4.mono H1.out.size))
  have l2 : W.heap.size < W2.heap.size := by have := hB4.size; omega
  clear hB3 hB4 e1 H1 H2
  have cq : Calls Tryz.prog 84 #[.func (.func 125) #[] #[]] W2.drew fun e w' => e = .returned (.func (.func 126) #[] #[.pointer (some ⟨W2.heap.size, 0, none⟩)]) ∧ w'.cell? ⟨W2.heap.size, 0, none⟩ = some (.func (.func 125) #[] #[]) ∧ Below W2.drew.heap.size W2.drew w' := reckons_c 125 W2.drew
  have K2 : ∀ w', Below W2.drew.heap.size W2.drew w' → (∀ k, w'.cell? ⟨W.heap.size, k, none⟩ = #[.pointer (some ⟨hb, 0, none⟩), vw, .slice (some ⟨vb, 0, none⟩) 2 2, vr][k]?) ∧ (∀ cp, w'.cell? ⟨cp, 0, none⟩ = some (.func (.func 125) #[] #[]) → Calls Tryz.prog 126 #[.agg #[.pointer (some ⟨hb, 0, none⟩), vw, .slice (some ⟨vb, 0, none⟩) 2 2, vr], .pointer (some ⟨cp, 0, none⟩)] w' R) := by
    intro w' hB
    exact ⟨fun k => by rw [hB.cell (p := ⟨W.heap.size, k, none⟩) l2]; exact eC k, fun cp hc => cr w' cp (H4.out.trans ((show Below W2.heap.size W2 w' from ⟨hB.os, hB.tape, hB.output, hB.size, hB.block⟩).mono H4.out.size)) hc⟩
  have HK := hid K2
  clear K2 cr
  go_region_with (first | (go_at_call 84; (with_reducible refine cq.mono ?_); rintro e W3 ⟨rfl, hcp, hB5⟩; (obtain ⟨eD, cz⟩ := HK.out W3 hB5); (replace cz := cz _ hcp); clear cq hcp hB5) | (go_at_call 126; (with_reducible refine cz.mono ?_); intro e w3 h3; (obtain ⟨x, y, rfl⟩ := T.out e w3 h3); clear cz))
  all_goals (
    simp only [Act.put, List.getElem_toArray, List.getElem_cons_zero, List.getElem_cons_succ, List.setIfInBounds_toArray, List.set_cons_zero, List.set_cons_succ]
    go_wp2
    exact h3)
end
theorem binary_plus (W : World) : Calls Tryz.prog 48 #[.string ⟨#[43]⟩] W fun e w' => e = .returned (.func (.func 83) #[] #[]) ∧ Below W.heap.size W w' := by
  have hne := fn_neq
  go_enter Tryz.func48, Tryz.ntmps48
  go_wp2
  go_ret
  exact ⟨rfl, Below.refl _ _⟩
end Go.Proofs.YtgkakflnmpoadaaGreatDoor.W.Nu
/- Package ops: Binary and Unary over their jobs. -/
namespace Go.Proofs.YtgkakflnmpoadaaGreatDoor.W.Nu
open Go.ChangeShapes Go.WideShapes Go.RowKit Go.Shelf
set_option linter.unusedVariables false
set_option maxRecDepth 100000 in
theorem Binary_g (W : World) (hb : Nat) (op : ByteArray) (a b : Nat) (kf : Nat) (eg : ∀ args w, (callFunc kf args).run Tryz.prog w = .ok (.enter kf args) w) (vr : Value) (rs : List Nat) (hr : WordsAt W vr rs) (hl : rs.length ≤ 999000) (k0 i0 b0 r0 : Int) (s0 : ByteArray) (k1 i1 b1 r1 : Int) (s1 : ByteArray) (lt0 : a < 18446744073709551616) (lt1 : b < 18446744073709551616)
    (cbin : Calls Tryz.prog 48 #[.string op] W fun e w' => e = .returned (.func (.func kf) #[] #[]) ∧ Below W.heap.size W w')
    (cu0 : ∀ w', Below W.heap.size W w' → Calls Tryz.prog 14 #[.pointer (some ⟨hb, 0, none⟩), .int .u64 (a : Nat)] w' fun e w'' => e = .returned (.tuple #[.agg #[.int .i64 k0, .int .i64 i0, .int .u64 b0, .string s0, .int .u64 r0], .int .i64 0]) ∧ Below w'.heap.size w' w'') (cu1 : ∀ w', Below W.heap.size W w' → Calls Tryz.prog 14 #[.pointer (some ⟨hb, 0, none⟩), .int .u64 (b : Nat)] w' fun e w'' => e = .returned (.tuple #[.agg #[.int .i64 k1, .int .i64 i1, .int .u64 b1, .string s1, .int .u64 r1], .int .i64 0]) ∧ Below w'.heap.size w' w'')
    {R : Ending → World → Prop} (two : ∀ e w', R e w' → ∃ x y, e = .returned (.tuple #[.int .u64 x, .int .i64 y]))
    (cj : ∀ (w' : World) (wb vb : Nat) (vr' : Value), Below W.heap.size W w' → w'.cell? ⟨wb, 0, none⟩ = some (.int .u64 (a : Nat)) → w'.cell? ⟨wb, 1, none⟩ = some (.int .u64 (b : Nat)) → (∀ j, w'.cell? ⟨vb, j, none⟩ = #[.int .i64 k0, .int .i64 i0, .int .u64 b0, .string s0, .int .u64 r0, .int .i64 k1, .int .i64 i1, .int .u64 b1, .string s1, .int .u64 r1][j]?) → WordsAt w' vr' (rs ++ [a, b]) → Calls Tryz.prog kf #[.agg #[.pointer (some ⟨hb, 0, none⟩), .slice (some ⟨wb, 0, none⟩) 2 2, .slice (some ⟨vb, 0, none⟩) 2 2, vr']] w' R) :
    Calls Tryz.prog 16 #[.pointer (some ⟨hb, 0, none⟩), .string op, .int .u64 (a : Nat), .int .u64 (b : Nat), vr] W R := by
  obtain ⟨o1, cap1, hvr, -⟩ := id hr
  subst hvr
  have cd : ∀ (W1 : World), Below W.heap.size W W1 → Calls Tryz.prog 13 #[.pointer (some ⟨hb, 0, none⟩), .func (.func kf) #[] #[], .slice (some ⟨W1.heap.size, 0, none⟩) 2 2, .slice o1 rs.length cap1] (W1.alloc (.cells #[.int .u64 (a : Nat), .int .u64 (b : Nat)] 22)) R := by
    intro W1 hB 
    have hB1 : Below W1.heap.size W1 (W1.alloc (.cells #[.int .u64 (a : Nat), .int .u64 (b : Nat)] 22)) := (Below.refl _ W1).alloc (Nat.le_refl _) _
    have e1 := World.cell?_alloc_new W1 #[.int .u64 (a : Nat), .int .u64 (b : Nat)] 22
    have hB2 := hB.trans (hB1.mono hB.size)
    refine done2_g _ hb W1.heap.size a b kf eg _ rs (words_below hr hB2) hl k0 i0 b0 r0 s0 k1 i1 b1 r1 s1 (e1 0) (e1 1) lt0 lt1 (fun w' h => cu0 w' (hB2.trans (h.mono hB2.size))) (fun w' h => cu1 w' (hB2.trans (h.mono hB2.size))) two (fun w' vb vr' h hv hw => cj w' W1.heap.size vb vr' (hB2.trans (h.mono hB2.size)) (cell_keep h (e1 0)) (cell_keep h (e1 1)) hv hw)
  have T := hid two
  clear two cj hr cu0 cu1 eg hl lt0 lt1
  have heq := fn_eql
  go_enter Tryz.func16, Tryz.ntmps16
  go_wp2_with (first | (go_at_call 48; (with_reducible refine cbin.mono ?_); rintro e W1 ⟨rfl, hB⟩; (replace cd := cd _ hB); clear cbin hB) | (go_at_call 13; (with_reducible refine cd.mono ?_); intro e w3 h3; (obtain ⟨x, y, rfl⟩ := T.out e w3 h3); clear cd))
  exact h3
end Go.Proofs.YtgkakflnmpoadaaGreatDoor.W.Nu
/- Package ops, beside a heap that a statement made: operators on whole numbers. -/
namespace Go.Proofs.YtgkakflnmpoadaaGreatDoor.W.Nu
open Go.ChangeShapes Go.WideShapes Go.RowKit Go.Shelf
set_option linter.unusedVariables false
theorem unbox_txt {W : World} {S : Nat → Prop} {hb : Nat} {H : List (Option Hc)} {u : Nat} (q : HSt W S hb H u) (w : Nat) (t : ByteArray) (h : IsTxt H w t) :
    Calls Tryz.prog 14 #[.pointer (some ⟨hb, 0, none⟩), .int .u64 w] W fun e w' => e = .returned (.tuple #[.agg #[.int .i64 4, .int .i64 0, .int .u64 0, .string t, .int .u64 0], .int .i64 0]) ∧ Below W.heap.size W w' := by
  rcases h with ⟨h1, h2⟩ | ⟨id, rfl, h2, h3⟩
  · rw [h2]; exact unbox_stext t h1 _ W
  · obtain ⟨sb, vc, T, l, _⟩ := q
    exact unbox_text l (hw id) (hw_lt id h2) (cls_hw id h2) id (hit_hw h2 h3) t h3
theorem eg_add : ∀ args w, (callFunc 125 args).run Tryz.prog w = .ok (.enter 125 args) w := enters_of Tryz.func125 (by kernel_rfl) rfl
section
variable {W0 W : World} {hb : Nat} {H : List (Option Hc)} {u : Nat} {K : Nat → Prop}
theorem IsInt.lt {w : Nat} {i : Int} (h : IsInt H w i) : w < 18446744073709551616 := by
  rcases h with ⟨h1, h2⟩ | ⟨id, rfl, h2, h3⟩
  · have := intW_bd i h1
    omega
  · exact hw_lt id h2
/-- a sum of whole numbers -/
theorem bin_add (q : Hf W0 W hb H u K) (a b : Nat) (i j : Int) (hi : IsInt H a i) (hj : IsInt H b j) (i0 : -9223372036854775808 ≤ i) (i1 : i < 9223372036854775808) (j0 : -9223372036854775808 ≤ j) (j1 : j < 9223372036854775808) (hs : -9223372036854775808 ≤ i + j ∧ i + j < 9223372036854775808) (vr : Value) (rs : List Nat) (hr : WordsAt W vr rs) (hl : rs.length ≤ 999000) (hf : sumH H + 2 ≤ u) (hH : H.length ≤ 1000000) :
    Calls Tryz.prog 16 #[.pointer (some ⟨hb, 0, none⟩), .string ⟨#[43]⟩, .int .u64 (a : Nat), .int .u64 (b : Nat), vr] W (BPost W0 W hb H u K (fun H' w => IsInt H' w (i + j)) (nI (i + j))) := by
  refine Binary_g W hb _ a b _ eg_plus vr rs hr hl 2 i 0 0 ⟨#[]⟩ 2 j 0 0 ⟨#[]⟩ (IsInt.lt hi) (IsInt.lt hj) (binary_plus W) (fun w' h => unbox_int (q.below' h).2.choose_spec.1 a i hi) (fun w' h => unbox_int (q.below' h).2.choose_spec.1 b j hj) (fun e w' h => h.two) (fun w' wb vb vr' h hw0 hw1 hv hw => ?_)
  have vl : vb < w'.heap.size := cell_lt (hv 0)
  refine plus_g 2 i 0 0 2 j 0 0 _ _ (by decide) hv (fun w2 cp h2 hc => ?_) (fun e w' h => h.two)
  have cg : ∀ w, Calls Tryz.prog 125 #[.agg #[.bool true, .int .i64 i, .int .u64 0], .agg #[.bool true, .int .i64 j, .int .u64 0]] w fun e w' => e = .returned (.tuple #[.agg #[.bool true, .int .i64 (i + j), .int .u64 0], .int .i64 0]) ∧ Gr w w' := by
    intro w
    have := numAdd_c true true i 0 j 0 i0 i1 j0 j1 w
    unfold addR at this
    rw [if_pos ⟨rfl, rfl⟩, fitR_in hs] at this
    exact this
  refine reckons1_g cp _ eg_add hc true true true i 0 j 0 (i + j) 0 (fun w3 h3 => ?_) cg (fun w3 h3 => ?_) (fun e w' h => h.two)
  · have h23 := h2.trans (h3.mono h2.size)
    exact numbers_tt w3 hb vb 2 _ _ (by decide) (by decide) 2 i 0 0 2 j 0 0 _ _ (fun k => by rw [h23.cell (p := ⟨vb, k, none⟩) vl]; exact hv k) true true i 0 j 0 (number_i i 0 0 _) (number_i j 0 0 _)
  · refine boxNum_i (i + j) 0 (fun w4 h4 => ?_) (fun e w' h => h.two)
    have h24 := h2.trans ((h3.trans (h4.mono h3.size)).mono h2.size)
    exact (boxI (q.below' (h.trans (h24.mono h.size))) vr' _ (words_below hw h24) _ hs.1 (by omega) hf hH).mono (fun e w5 h5 => h5.on (h.trans (h24.mono h.size)))
end
end Go.Proofs.YtgkakflnmpoadaaGreatDoor.W.Nu
/- Package ops: built-in functions of one argument; Told of a string; Arity; casketlaw10's awake. -/
namespace Go.Proofs.YtgkakflnmpoadaaGreatDoor.W.Nu
open Go.ChangeShapes Go.WideShapes Go.RowKit Go.Shelf
set_option linter.unusedVariables false
set_option maxRecDepth 100000 in
theorem Builtin_1 (W : World) (hb : Nat) (name : ByteArray) (a wb : Nat) (kf : Nat) (eg : ∀ args w, (callFunc kf args).run Tryz.prog w = .ok (.enter kf args) w) (vr : Value) (rs : List Nat) (hr : WordsAt W vr rs) (hl : rs.length ≤ 999000) (k0 i0 b0 r0 : Int) (s0 : ByteArray) (lt0 : a < 18446744073709551616) (hw0 : W.cell? ⟨wb, 0, none⟩ = some (.int .u64 (a : Nat)))
    (hfind : ∀ x5 x6 x7 x8 x9, findL (opsL x5 x6 x7 x8 x9) name = some (.agg #[.int .i64 1, .func (.func kf) #[] #[]]))
    (cu0 : ∀ w', Below W.heap.size W w' → Calls Tryz.prog 14 #[.pointer (some ⟨hb, 0, none⟩), .int .u64 (a : Nat)] w' fun e w'' => e = .returned (.tuple #[.agg #[.int .i64 k0, .int .i64 i0, .int .u64 b0, .string s0, .int .u64 r0], .int .i64 0]) ∧ Below w'.heap.size w' w'')
    {R : Ending → World → Prop} (two : ∀ e w', R e w' → ∃ x y, e = .returned (.tuple #[.int .u64 x, .int .i64 y]))
    (cj : ∀ (w' : World) (vb : Nat) (vr' : Value), Below W.heap.size W w' → w'.cell? ⟨wb, 0, none⟩ = some (.int .u64 (a : Nat)) → (∀ j, w'.cell? ⟨vb, j, none⟩ = #[.int .i64 k0, .int .i64 i0, .int .u64 b0, .string s0, .int .u64 r0][j]?) → WordsAt w' vr' (rs ++ [a]) → Calls Tryz.prog kf #[.agg #[.pointer (some ⟨hb, 0, none⟩), .slice (some ⟨wb, 0, none⟩) 1 1, .slice (some ⟨vb, 0, none⟩) 1 1, vr']] w' R) :
    Calls Tryz.prog 6 #[.pointer (some ⟨hb, 0, none⟩), .string name, .slice (some ⟨wb, 0, none⟩) 1 1, vr] W R := by
  obtain ⟨o1, cap1, hvr, -⟩ := id hr
  subst hvr
  have cd : ∀ (W1 : World), Below W.heap.size W W1 → Calls Tryz.prog 13 #[.pointer (some ⟨hb, 0, none⟩), .func (.func kf) #[] #[], .slice (some ⟨wb, 0, none⟩) 1 1, .slice o1 rs.length cap1] (W1.alloc (.cells #[.int .i64 1, .func (.func kf) #[] #[]] 51)) R := by
    intro W1 hB
    have hB1 : Below W1.heap.size W1 (W1.alloc (.cells #[.int .i64 1, .func (.func kf) #[] #[]] 51)) := (Below.refl _ W1).alloc (Nat.le_refl _) _
    have hB2 := hB.trans (hB1.mono hB.size)
    exact done1_g _ hb wb a kf eg _ rs (words_below hr hB2) hl k0 i0 b0 r0 s0 (cell_keep hB2 hw0) lt0 (fun w' h => cu0 w' (hB2.trans (h.mono hB2.size))) two (fun w' vb vr' h hv hw => cj w' vb vr' (hB2.trans (h.mono hB2.size)) (cell_keep h (cell_keep hB2 hw0)) hv hw)
  have T := hid two
  have F := hid hfind
  clear two cj hr cu0 eg hl lt0 hw0 hfind
  go_enter Tryz.func6, Tryz.ntmps6
  go_wp2_with (first | (go_at_call 12; (with_reducible refine (builtins_c _).mono ?_); rintro e W1 ⟨b, x5, x6, x7, x8, x9, rfl, HL, hB⟩; (have hlk := run_lookup_l underBM underBS HL name _ (F.out x5 x6 x7 x8 x9)); (replace cd := cd _ hB); clear HL hB) | (go_at_call 13; (with_reducible refine cd.mono ?_); intro e w3 h3; (obtain ⟨x, y, rfl⟩ := T.out e w3 h3); clear cd))
  exact h3
theorem find_chr (x5 x6 x7 x8 x9 : Nat) : findL (opsL x5 x6 x7 x8 x9) ⟨#[99, 104, 114]⟩ = some (.agg #[.int .i64 1, .func (.func 32) #[] #[]]) := by kernel_rfl
theorem find_view (x5 x6 x7 x8 x9 : Nat) : findL (opsL x5 x6 x7 x8 x9) ⟨#[118, 105, 101, 119]⟩ = some (.agg #[.int .i64 4, .func (.func 36) #[] #[]]) := by kernel_rfl
theorem arity_view (W : World) : Calls Tryz.prog 17 #[.string ⟨#[118, 105, 101, 119]⟩] W fun e w' => e = .returned (.tuple #[.int .i64 4, .bool true]) ∧ Below W.heap.size W w' := by
  go_enter Tryz.func17, Tryz.ntmps17
  go_wp2_with (go_at_call 12; (with_reducible refine (builtins_c _).mono ?_); rintro e W1 ⟨b, x5, x6, x7, x8, x9, rfl, HL, hB⟩; (have hlk := run_lookup_l underBM underBS HL _ _ (find_view x5 x6 x7 x8 x9)); clear HL)
  go_ret2
  exact ⟨rfl, hB.alloc hB.size _⟩
set_option maxRecDepth 100000 in
theorem told_txt (t : ByteArray) (W : World) : Calls Tryz.prog 15 #[.agg #[.int .i64 4, .int .i64 0, .int .u64 0, .string t, .int .u64 0]] W fun e w' => e = .returned (.tuple #[.string t, .int .i64 0]) ∧ Below W.heap.size W w' := by
  go_enter Tryz.func15, Tryz.ntmps15
  go_wp2
  go_ret2
  exact ⟨rfl, (Below.refl _ W).alloc (Nat.le_refl _) _⟩
theorem Told_txt (W : World) (hb a : Nat) (t : ByteArray) (cu : Calls Tryz.prog 14 #[.pointer (some ⟨hb, 0, none⟩), .int .u64 (a : Nat)] W fun e w'' => e = .returned (.tuple #[.agg #[.int .i64 4, .int .i64 0, .int .u64 0, .string t, .int .u64 0], .int .i64 0]) ∧ Below W.heap.size W w'') :
    Calls Tryz.prog 8 #[.pointer (some ⟨hb, 0, none⟩), .int .u64 (a : Nat)] W fun e w' => e = .returned (.tuple #[.string t, .int .i64 0]) ∧ Below W.heap.size W w' := by
  go_enter Tryz.func8, Tryz.ntmps8
  go_wp2_with (first | (go_at_call 14; (with_reducible refine cu.mono ?_); rintro e W1 ⟨rfl, hB⟩; (replace hB := hid hB); clear cu) | (go_at_call 15; (with_reducible refine (told_txt _ _).mono ?_); rintro e W2 ⟨rfl, hB2⟩))
  go_ret2
  have h1 := hB.out.alloc hB.out.size (.cells #[.int .i64 4, .int .i64 0, .int .u64 0, .string t, .int .u64 0] 46)
  exact ⟨rfl, h1.trans (hB2.mono h1.size)⟩
section
variable {W0 W : World} {hb : Nat} {H : List (Option Hc)} {u : Nat} {K : Nat → Prop}
theorem num_sum {id : Nat} {i : Int} (h : H[id]? = some (some (.num i))) : 2 ≤ sumH H := by
  obtain ⟨hl, he⟩ := List.getElem?_eq_some_iff.1 h
  have := sumH_set H id none hl
  rw [he] at this
  have e1 : needO (some (Hc.num i)) = 2 := num_need i
  have e2 : needO none = 0 := rfl
  omega
theorem small_word {w : Nat} {i : Int} (h : IsInt H w i) (hs : sumH H < 2) : (w : Int) = intW i := by
  rcases h with ⟨_, h2⟩ | ⟨id, rfl, h2, h3⟩
  · exact h2
  · have := num_sum h3; omega
theorem bin_chr65 (q : Hf W0 W hb H u K) (wb : Nat) (hw0 : W.cell? ⟨wb, 0, none⟩ = some (.int .u64 (18444773748872577089 : Nat))) (vr : Value) (rs : List Nat) (hr : WordsAt W vr rs) (hl : rs.length ≤ 999000) (hf : sumH H + 2 ≤ u) (hH : H.length ≤ 1000000) :
    Calls Tryz.prog 6 #[.pointer (some ⟨hb, 0, none⟩), .string ⟨#[99, 104, 114]⟩, .slice (some ⟨wb, 0, none⟩) 1 1, vr] W (BPost W0 W hb H u K (fun H' w => IsTxt H' w ⟨#[65]⟩) (nT ⟨#[65]⟩)) := by
  have tA : tneed ⟨#[65]⟩ = 2 := by decide
  have hi : IsInt H 18444773748872577089 65 := .inl ⟨by decide, by decide⟩
  refine Builtin_1 W hb _ 18444773748872577089 wb _ eg_character vr rs hr hl 2 65 0 0 ⟨#[]⟩ (by decide) hw0 find_chr (fun w' h => unbox_int (q.below' h).2.choose_spec.1 _ 65 hi) (fun e w' h => h.two) (fun w' vb vr' h hc hv hw => ?_)
  exact character65 0 0 _ hv (fun w2 h2 => (boxS (q.below' (h.trans (h2.mono h.size))) vr' _ (words_below hw h2) ⟨#[65]⟩ (by decide) (by rw [tA]; exact hf) hH).mono (fun e w3 h3 => h3.on (h.trans (h2.mono h.size)))) (fun e w' h => h.two)
end
set_option maxRecDepth 100000 in
set_option maxHeartbeats 1000000 in
theorem awake10_c (W : World) : Calls Tryz.prog 9 #[] W fun e w' => e = .returned (.bool true) ∧ Below W.heap.size W w' := by
  have cn := hf_new (Below.refl W.heap.size W) 9 (by decide)
  rw [show ((9 : Nat) : Int) = 9 from rfl] at cn
  go_enter Tryz.func9, Tryz.ntmps9
  go_upto_region 4 with (go_at_call 4; (with_reducible refine cn.mono ?_); rintro e W1 ⟨hb, rfl, q1, hB1⟩; clear cn)
  have c1 := bin_add q1 18444773748872577025 18444773748872577026 1 2 (.inl ⟨by decide, by decide⟩) (.inl ⟨by decide, by decide⟩) (by decide) (by decide) (by decide) (by decide) (by decide) (.slice none 0 0) [] (words_nil' W1) (by decide) (by decide) (by decide)
  rw [show ((18444773748872577025 : Nat) : Int) = 18444773748872577025 from rfl, show ((18444773748872577026 : Nat) : Int) = 18444773748872577026 from rfl] at c1
  have e3 : nI (1 + 2) = 0 := by decide
  go_upto_region 5 with (go_at_call 16; (with_reducible refine c1.mono ?_); rintro e W2 ⟨w, H2, rfl, q2, hE2, hI2, hs2, hl2, hA2, hlt2, hU2⟩; clear c1; (have hw2 := small_word hI2 (by rw [hs2, e3]; decide)); (rw [show intW (1 + 2) = 18444773748872577027 from by decide] at hw2); (rw [hw2]))
  have hB2a : Below W2.heap.size W2 (W2.alloc (.cells #[.int .u64 18444773748872577089] 22)) := (Below.refl _ W2).alloc (Nat.le_refl _) _
  have c2 := bin_chr65 (q2.below' hB2a) W2.heap.size (World.cell?_alloc_new W2 #[.int .u64 18444773748872577089] 22 0) (.slice none 0 0) [] (words_nil' _) (by decide) (by rw [hs2, e3]; decide) (by simp only [List.length_nil] at hl2; omega)
  clear q1 hE2 hI2 hA2 hlt2 hU2 hw2 hB1 q2 hB2a hl2 hs2
  go_upto_region 6 with (go_at_call 6; (with_reducible refine c2.mono ?_); rintro e W3 ⟨w3, H3, rfl, q3, hE3, hI3, hs3, hl3, hA3, hlt3, hU3⟩; clear c2)
  have c3 := Told_txt W3 hb w3 _ (unbox_txt q3.2.choose_spec.1 w3 _ hI3)
  have HB := hid q3.bel
  clear q3 hE3 hI3 hs3 hl3 hA3 hlt3 hU3
  go_wp2_with (first | (go_at_call 8; (with_reducible refine c3.mono ?_); rintro e W4 ⟨rfl, hB4⟩; clear c3) | (go_at_call 17; (with_reducible refine (arity_view _).mono ?_); rintro e W5 ⟨rfl, hB5⟩))
  go_ret
  exact ⟨rfl, HB.out.trans ((hB4.trans (hB5.mono hB4.size)).mono HB.out.size)⟩
end Go.Proofs.YtgkakflnmpoadaaGreatDoor.W.Nu
/- casketlaw10's box; a row of whole numbers of one's own beside a heap. -/
namespace Go.Proofs.YtgkakflnmpoadaaGreatDoor.W.Nu
open Go.ChangeShapes Go.WideShapes Go.RowKit Go.Shelf
set_option linter.unusedVariables false
/-- behind casketlaw10's box -/
def LB (W0 W1 : World) (hb : Nat) (H : List (Option Hc)) (u : Nat) (K : Nat → Prop) (V : List (Option Hc) → Nat → Prop) (n : Nat) (e : Ending) (w' : World) : Prop := ∃ (w : Nat) (H' : List (Option Hc)), e = .returned (.tuple #[.int .u64 (w : Nat), .bool true]) ∧ Hf W0 w' hb H' u K ∧ Ext H H' ∧ V H' w ∧ sumH H' = sumH H + n ∧ H'.length ≤ H.length + 1 ∧ (∀ ws, AllR H ws → AllR H' (ws ++ [w])) ∧ w < 18446744073709551616 ∧ Upd (Ch W0 K) W1 w'
section
variable {W0 W : World} {hb : Nat} {H : List (Option Hc)} {u : Nat} {K : Nat → Prop}
theorem cell_upd {W' : World} {n i : Nat} {v : Value} (hU : Upd (Ch W0 K) W W') (hk : K n) (h : W.cell? ⟨n, i, none⟩ = some v) : W'.cell? ⟨n, i, none⟩ = some v := by
  have hl := cell_lt h
  rw [← h]
  exact World.cell?_of_block (hU.block n hl (fun c => c.1 hk))
theorem wf_i64' {i : Int} (h : (Lit.int .i64 i).wf = true) : -9223372036854775808 ≤ i ∧ i ≤ 9223372036854775807 := by
  simp [Lit.wf] at h
  have e1 : IntKind.i64.min = -9223372036854775808 := by decide
  have e2 : IntKind.i64.max = 9223372036854775807 := by decide
  omega
theorem wf_u64' {i : Int} (h : (Lit.int .u64 i).wf = true) : 0 ≤ i ∧ i < 18446744073709551616 := by
  simp [Lit.wf] at h
  have e1 : IntKind.u64.min = 0 := by decide
  have e2 : IntKind.u64.max = 18446744073709551615 := by decide
  omega
def ints (l : List Int) : List Value := l.map (Value.int .i64)
/-- a row of whole numbers of one's own, behind block B -/
structure MineI (B : Nat) (W : World) (K : Nat → Prop) (v : Value) (l : List Int) : Prop where
  row : W.ownsRow B 2 1 v l.length (ints l)
  keep : ∀ k, v.ownBlock = some k → K k
  len : l.length ≤ 900000
theorem MineI.upd {B : Nat} {W' : World} {v : Value} {l : List Int} (o : MineI B W K v l) (hU : Upd (Ch W0 K) W W') : MineI B W' K v l :=
  ⟨owns_on o.row (fun k e => hU.block k (o.row.lt k e).2 (fun h => h.1 (o.keep k e))), o.keep, o.len⟩
theorem MineI.below {B : Nat} {W' : World} {v : Value} {l : List Int} (o : MineI B W K v l) (hB : Below W.heap.size W W') : MineI B W' K v l :=
  ⟨owns_on o.row (fun k e => hB.block k (o.row.lt k e).2), o.keep, o.len⟩
theorem hf_aside (q : Hf W0 W hb H u K) (o : Obj) : ∃ K' : Nat → Prop, Hf W0 (W.alloc o) hb H u K' ∧ K' W.heap.size ∧ (∀ k, K k → K' k) :=
  ⟨_, q.below ((Below.refl _ W).alloc (Nat.le_refl _) o), .inr ⟨Nat.le_refl _, by rw [World.size_alloc]; omega⟩, fun k h => .inl h⟩
end
end Go.Proofs.YtgkakflnmpoadaaGreatDoor.W.Nu
/- Plain facts on words of IEEE 754: a number is written as its nearest word whatever its spelling; what a format has is written as it was read; words compare by the exact numbers that they are. -/
namespace Go.Proofs.YtgkakflnmpoadaaGreatDoor.W.Nu
open Ieee

/-- a quotient rounded to the nearest whole number, between two the even one -/
def cutE (n g : Nat) : Nat := n / g + (if g < 2 * (n % g) ∨ (g = 2 * (n % g) ∧ n / g % 2 = 1) then 1 else 0)

theorem gap_low (n d : Nat) (h : n.log2 + 2 < d) : n < 2 ^ (n.log2 + 2) ∧ 2 * n < 2 ^ (n.log2 + 2) ∧ 2 ^ (n.log2 + 2) < 2 ^ d := by
  have h1 : n < 2 ^ (n.log2 + 1) := Nat.lt_log2_self
  have h2 : 2 ^ (n.log2 + 2) = 2 * 2 ^ (n.log2 + 1) := by rw [show n.log2 + 2 = n.log2 + 1 + 1 from rfl, Nat.pow_succ]; omega
  have h3 : 2 ^ (n.log2 + 2) < 2 ^ d := Nat.pow_lt_pow_right (by omega) h
  omega

theorem toNat_if {b : Bool} {p : Prop} [Decidable p] (h : b = true ↔ p) : b.toNat = if p then 1 else 0 := by
  cases b <;> by_cases hp : p <;> simp_all
theorem cut_even (s : Bool) (n d : Nat) : Toward.even.cut s n d = cutE n (2 ^ d) := by
  unfold Toward.cut cutE
  simp only [Nat.one_shiftLeft]
  by_cases h : d ≤ n.log2 + 2
  · rw [Nat.min_eq_left h]
    congr 1
    generalize 2 ^ d = g
    exact toNat_if (by simp)
  · rw [Nat.min_eq_right (by omega)]
    obtain ⟨h1, h2, h3⟩ := gap_low n d (by omega)
    have h4 : n < 2 ^ d := by omega
    rw [Nat.div_eq_of_lt h1, Nat.mod_eq_of_lt h1, Nat.div_eq_of_lt h4, Nat.mod_eq_of_lt h4, if_neg (by omega)]
    have e : decide (2 ^ (n.log2 + 2) < 2 * n) = false := by simp; omega
    simp [e]
theorem cutE_mul (n g c : Nat) (hc : 0 < c) : cutE (n * c) (g * c) = cutE n g := by
  unfold cutE
  rw [Nat.mul_div_mul_right n g hc, Nat.mul_mod_mul_right]
  congr 1
  have e : 2 * (n % g * c) = 2 * (n % g) * c := by rw [Nat.mul_assoc]
  rw [e]
  have h1 : (g * c < 2 * (n % g) * c) = (g < 2 * (n % g)) := propext (Nat.mul_lt_mul_right hc)
  have h2 : (g * c = 2 * (n % g) * c) = (g = 2 * (n % g)) := propext (Nat.mul_left_inj (by omega))
  simp only [h1, h2]
theorem cutE_one (n : Nat) : cutE n 1 = n := by
  unfold cutE
  simp [Nat.mod_one]
theorem cutE_move (m a b a' b' : Nat) (h : a' + b = a + b') : cutE (m * 2 ^ a') (2 ^ b') = cutE (m * 2 ^ a) (2 ^ b) := by
  rw [← cutE_mul (m * 2 ^ a') (2 ^ b') (2 ^ b) (Nat.two_pow_pos _), ← cutE_mul (m * 2 ^ a) (2 ^ b) (2 ^ b') (Nat.two_pow_pos _)]
  rw [Nat.mul_assoc, Nat.mul_assoc, ← Nat.pow_add, ← Nat.pow_add, ← Nat.pow_add, ← Nat.pow_add, h, Nat.add_comm b' b]

theorem log2_shift (m k : Nat) (h : m ≠ 0) : (m * 2 ^ k).log2 = m.log2 + k := by
  induction k with
  | zero => simp
  | succ k ih =>
    rw [Nat.pow_succ, ← Nat.mul_assoc, Nat.mul_comm _ 2, Nat.log2_two_mul (Nat.mul_ne_zero h (Nat.ne_of_gt (Nat.two_pow_pos k))), ih]
    omega

theorem nearest_shift (f : Format) (s : Bool) (m k : Nat) (p : Int) : f.nearest s (m * 2 ^ k) (p - k) = f.nearest s m p := by
  unfold Format.nearest
  by_cases h : m = 0
  · subst h; simp
  · have h' : m * 2 ^ k ≠ 0 := Nat.mul_ne_zero h (Nat.ne_of_gt (Nat.two_pow_pos k))
    rw [if_neg h', if_neg h, log2_shift m k h]
    have e : p - (k : Int) + ((m.log2 + k : Nat) : Int) - f.fractionBits = p + (m.log2 : Nat) - f.fractionBits := by omega
    simp only [e]
    generalize max (p + (m.log2 : Nat) - f.fractionBits) f.leastPlace = L
    rw [cut_even, cut_even, Nat.shiftLeft_eq, Nat.shiftLeft_eq, Nat.mul_assoc, ← Nat.pow_add]
    rw [cutE_move m (p - L).toNat (L - p).toNat (k + (p - k - L).toNat) (L - (p - k)).toNat (by omega)]
/-! ### what a word reads as, written again -/
theorem read_number {x : Nat} {s : Bool} {m : Nat} {p : Int} (hx : x < 18446744073709551616) (h : Ieee.double.read x = .number s m p) :
    m < 9007199254740992 ∧ -1074 ≤ p ∧ p ≤ 971 ∧ (4503599627370496 ≤ m ∨ p = -1074) ∧ x = (if s then 9223372036854775808 else 0) + ((p + 1074).toNat * 4503599627370496 + m) := by
  rw [read_eq] at h
  have hs : (if (x / 9223372036854775808 % 2 == 1) = true then 9223372036854775808 else 0) = x / 9223372036854775808 * 9223372036854775808 := by
    by_cases g : x / 9223372036854775808 % 2 = 1
    · simp [g]; omega
    · simp [g]; omega
  split at h
  · cases h
    refine ⟨by omega, by omega, by omega, Or.inr rfl, ?_⟩
    rw [hs]; omega
  · split at h
    · cases h
      refine ⟨by omega, by omega, by omega, Or.inl (by omega), ?_⟩
      rw [hs]; omega
    · split at h <;> cases h

theorem write_read {x : Nat} {s : Bool} {m : Nat} {p : Int} (hx : x < 18446744073709551616) (h : Ieee.double.read x = .number s m p) : Ieee.double.nearest s m p = x := by
  obtain ⟨h1, h2, h3, h4, h5⟩ := read_number hx h
  unfold Format.nearest
  by_cases h0 : m = 0
  · subst h0
    rw [if_pos rfl, word_eq, h5]
    have : p = -1074 := by omega
    subst this
    simp
  · rw [if_neg h0]
    have hl : m.log2 ≤ 52 := by
      have : m.log2 < 53 := (Nat.log2_lt h0).2 (by omega)
      omega
    have hL : max (p + (m.log2 : Nat) - ((Ieee.double.fractionBits : Nat) : Int)) Ieee.double.leastPlace = p := by
      rw [D_least]
      show max (p + (m.log2 : Nat) - 52) (-1074) = p
      rcases h4 with h4 | h4
      · have : 52 ≤ m.log2 := (Nat.le_log2 h0).2 (by omega)
        omega
      · omega
    simp only [hL]
    rw [cut_even]
    simp only [Int.sub_self, Int.toNat_zero, Nat.shiftLeft_zero, Nat.pow_zero, cutE_one, D_least, D_bin, D_inf, word_eq]
    rw [h5, show p - -1074 = p + 1074 from by omega, Nat.min_eq_left (by omega)]
theorem write_inf {x : Nat} {s : Bool} (hx : x < 18446744073709551616) (h : Ieee.double.read x = .infinity s) : Ieee.double.write (.infinity s) = x := by
  have e : Ieee.double.write (.infinity s) = Ieee.double.word s Ieee.double.infRung := rfl
  rw [e, word_eq, D_inf]
  rw [read_eq] at h
  split at h
  · cases h
  · split at h
    · cases h
    · split at h
      · rename_i h1 h2 h3
        cases h
        by_cases g : x / 9223372036854775808 % 2 = 1
        · simp [g]; omega
        · simp [g]; omega
      · cases h

/-! ### words compare by the exact numbers -/
/-- beyond every finite double, in units of the least number's place -/
def bigOf (k : Nat) : Nat := 2 ^ k
def big : Nat := bigOf 2200
/-- the exact number of a datum, in units of the least number's place; infinities beyond all -/
def key : Datum → Int
  | .number s m p => signed s m (p + 1074).toNat
  | .infinity s => if s then -(big : Int) else (big : Int)
  | .nan _ _ => 0

end Go.Proofs.YtgkakflnmpoadaaGreatDoor.W.Nu
/- Plain facts on words of IEEE 754 of 32 bits, and on their way to 64 bits and back. -/
namespace Go.Proofs.YtgkakflnmpoadaaGreatDoor.W.Nu
open Ieee

end Go.Proofs.YtgkakflnmpoadaaGreatDoor.W.Nu
/- Plain facts on what package soft answers: sums and products either way round, a difference is a sum, a sign twice turned; no NaN but one. -/
namespace Go.Proofs.YtgkakflnmpoadaaGreatDoor.W.Nu
open Ieee

theorem sum_comm (a b : Datum) : a.sum b = b.sum a := by
  cases a with
  | nan s t => cases b <;> rfl
  | infinity s =>
    cases b with
    | nan s t => rfl
    | infinity t => cases s <;> cases t <;> rfl
    | number t n j => rfl
  | number s m i =>
    cases b with
    | nan s t => rfl
    | infinity t => rfl
    | number t n j =>
      simp only [Datum.sum]
      rw [show min j i = min i j from by omega, Int.add_comm (signed s m _), Bool.and_comm s t]
theorem product_comm (a b : Datum) : a.product b = b.product a := by
  cases a with
  | nan s t => cases b <;> rfl
  | infinity s =>
    cases b with
    | nan s t => rfl
    | infinity t => simp only [Datum.product]; rw [Bool.xor_comm]
    | number t n j => rfl
  | number s m i =>
    cases b with
    | nan s t => rfl
    | infinity t => rfl
    | number t n j =>
      simp only [Datum.product]
      rw [Bool.xor_comm, Nat.mul_comm, Int.add_comm]
theorem add_comm (a b : Int) : opI .add a b = opI .add b a := by
  have e : floatBits .add .f64 a.toNat b.toNat = floatBits .add .f64 b.toNat a.toNat := by
    show ((Ieee.double.read a.toNat).sum (Ieee.double.read b.toNat)).map Ieee.double.write = ((Ieee.double.read b.toNat).sum (Ieee.double.read a.toNat)).map Ieee.double.write
    rw [sum_comm]
  unfold opI; rw [e]
theorem mul_comm (a b : Int) : opI .mul a b = opI .mul b a := by
  have e : floatBits .mul .f64 a.toNat b.toNat = floatBits .mul .f64 b.toNat a.toNat := by
    show ((Ieee.double.read a.toNat).product (Ieee.double.read b.toNat)).map Ieee.double.write = ((Ieee.double.read b.toNat).product (Ieee.double.read a.toNat)).map Ieee.double.write
    rw [product_comm]
  unfold opI; rw [e]
theorem nan_of (a : Int) (h0 : 0 ≤ a) : (Ieee.double.read a.toNat).isNaN = nanB a := by
  rw [nan_read, Int.toNat_of_nonneg h0]
end Go.Proofs.YtgkakflnmpoadaaGreatDoor.W.Nu
/- Plain facts on what package soft answers, by the exact numbers: whole numbers, floors, whole parts, sums, products and quotients that are exact. -/
namespace Go.Proofs.YtgkakflnmpoadaaGreatDoor.W.Nu
open Ieee

/-- the exact number of a pattern -/
def keyI (a : Int) : Int := key (Ieee.double.read a.toNat)
/-- a finite double's pattern -/
def finB (a : Int) : Bool := decide (a % 9223372036854775808 < 9218868437227405312)

theorem fin_read (a : Int) (h : finB a = true) : ∃ s m p, Ieee.double.read a.toNat = .number s m p := by
  rw [read_eq]
  simp only [finB, decide_eq_true_eq] at h
  split
  · exact ⟨_, _, _, rfl⟩
  · rw [if_pos (by omega)]; exact ⟨_, _, _, rfl⟩
end Go.Proofs.YtgkakflnmpoadaaGreatDoor.W.Nu
