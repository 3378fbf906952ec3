import Derived.Test.YtgmimmdojkoppaaGreatDoorO5aJ
import Derived.Test.YtgmimmdojkoppaaGreatDoorBase29
/- Package ops: jobs that compare; Binary over them. -/
namespace Go.Proofs.YtgmimmdojkoppaaGreatDoor.W.Nu
open Go.ChangeShapes Go.WideShapes Go.RowKit Go.Shelf
set_option linter.unusedVariables false
set_option maxRecDepth 100000 in
set_option maxHeartbeats 1000000 in
theorem done2_k2 (W : World) (hb wb : Nat) (a b : Nat) (kf : Nat) (eg : ∀ args w, (callFunc kf args).run Tryz.prog w = .ok (.enter kf args) w) (cp cq : Nat) (vr : Value) (rs : List Nat) (hr : WordsAt W vr rs) (hl : rs.length ≤ 999000) (k0 i0 b0 r0 : Int) (s0 : ByteArray) (k1 i1 b1 r1 : Int) (s1 : ByteArray) (hw0 : W.cell? ⟨wb, 0, none⟩ = some (.int .u64 (a : Nat))) (hw1 : W.cell? ⟨wb, 1, none⟩ = some (.int .u64 (b : Nat))) (lt0 : a < 18446744073709551616) (lt1 : b < 18446744073709551616)
    (cu0 : ∀ w', Below W.heap.size W w' → Calls Tryz.prog 18 #[.pointer (some ⟨hb, 0, none⟩), .int .u64 (a : Nat)] w' fun e w'' => e = .returned (.tuple #[.agg #[.int .i64 k0, .int .i64 i0, .int .u64 b0, .string s0, .int .u64 r0], .int .i64 0]) ∧ Below w'.heap.size w' w'') (cu1 : ∀ w', Below W.heap.size W w' → Calls Tryz.prog 18 #[.pointer (some ⟨hb, 0, none⟩), .int .u64 (b : Nat)] w' fun e w'' => e = .returned (.tuple #[.agg #[.int .i64 k1, .int .i64 i1, .int .u64 b1, .string s1, .int .u64 r1], .int .i64 0]) ∧ Below w'.heap.size w' w'')
    {R : Ending → World → Prop} (two : ∀ e w', R e w' → ∃ x y, e = .returned (.tuple #[.int .u64 x, .int .i64 y]))
    (cj : ∀ (w' : World) (vb : Nat) (vr' : Value), Below W.heap.size W w' → (∀ j, w'.cell? ⟨vb, j, none⟩ = #[.int .i64 k0, .int .i64 i0, .int .u64 b0, .string s0, .int .u64 r0, .int .i64 k1, .int .i64 i1, .int .u64 b1, .string s1, .int .u64 r1][j]?) → WordsAt w' vr' (rs ++ [a, b]) → Calls Tryz.prog kf #[.agg #[.pointer (some ⟨hb, 0, none⟩), .slice (some ⟨wb, 0, none⟩) 2 2, .slice (some ⟨vb, 0, none⟩) 2 2, vr'], .pointer (some ⟨cp, 0, none⟩), .pointer (some ⟨cq, 0, none⟩)] w' R) :
    Calls Tryz.prog 15 #[.pointer (some ⟨hb, 0, none⟩), .func (.func kf) #[] #[.pointer (some ⟨cp, 0, none⟩), .pointer (some ⟨cq, 0, none⟩)], .slice (some ⟨wb, 0, none⟩) 2 2, vr] W R := by
  have T := hid two
  clear two
  have hmk := make2 W
  have hB1 : Below W.heap.size W (W.alloc (.cells #[.int .i64 0, .int .i64 0, .int .u64 0, .string ⟨#[]⟩, .int .u64 0, .int .i64 0, .int .i64 0, .int .u64 0, .string ⟨#[]⟩, .int .u64 0] 47)) := (Below.refl _ W).alloc (Nat.le_refl _) _
  have f1 : (W.alloc (.cells [.int .i64 0, .int .i64 0, .int .u64 0, .string ⟨#[]⟩, .int .u64 0, .int .i64 0, .int .i64 0, .int .u64 0, .string ⟨#[]⟩, .int .u64 0].toArray 47)).heap[W.heap.size]? = some (.cells [.int .i64 0, .int .i64 0, .int .u64 0, .string ⟨#[]⟩, .int .u64 0, .int .i64 0, .int .i64 0, .int .u64 0, .string ⟨#[]⟩, .int .u64 0].toArray 47 (0, 0)) := World.alloc_heap_new W (.cells #[.int .i64 0, .int .i64 0, .int .u64 0, .string ⟨#[]⟩, .int .u64 0, .int .i64 0, .int .i64 0, .int .u64 0, .string ⟨#[]⟩, .int .u64 0] 47)
  obtain ⟨o1, cap1, hvr, -⟩ := id hr
  subst hvr
  have hWB : Hid (W.heap.size ≤ W.heap.size) := Nat.le_refl _
  go_enter Tryz.func15, Tryz.ntmps15
  go_upto_region 3 with fail
  have hWW : wb ≠ W.heap.size := by have := cell_lt hw0; omega
  have HV := hid hB1
  have HR := hid hr
  clear hmk hr hB1
  have f := f1
  clear f1
  replace hw0 := cell_keep HV.out hw0
  replace hw1 := cell_keep HV.out hw1
  generalize hW1 : W.alloc (.cells #[.int .i64 0, .int .i64 0, .int .u64 0, .string ⟨#[]⟩, .int .u64 0, .int .i64 0, .int .i64 0, .int .u64 0, .string ⟨#[]⟩, .int .u64 0] 47) = W1 at *
  clear hW1
  go_wp2
  refine wp_loop_rounds 3 ?_
  rw [rounds_succ]
  go_upto_region 8 with (go_at_call 18; (with_reducible refine (cu0 _ HV.out).mono ?_); rintro e W2 ⟨rfl, hB2⟩; clear cu0)
  have hB3 : Below W2.heap.size W2 (W2.alloc (.cells #[.int .i64 k0, .int .i64 i0, .int .u64 b0, .string s0, .int .u64 r0] 47)) := (Below.refl _ W2).alloc (Nat.le_refl _) _
  have hB4 := hB2.trans (hB3.mono hB2.size)
  replace HV := hid (HV.out.trans (hB4.mono HV.out.size))
  replace f := row_below f hB4
  replace hw0 := cell_keep hB4 hw0
  replace hw1 := cell_keep hB4 hw1
  have e13 := World.cell?_alloc_new W2 #[.int .i64 k0, .int .i64 i0, .int .u64 b0, .string s0, .int .u64 r0] 47
  have cv := row_cells f
  have zv := row_thaw f
  clear hB2 hB3 hB4
  generalize W2.heap.size = b13 at *
  generalize W2.alloc (.cells #[.int .i64 k0, .int .i64 i0, .int .u64 b0, .string s0, .int .u64 r0] 47) = W3 at *
  have F := hid f
  clear f
  go_upto_region 9 with fail
  generalize hW5 : World.setCell _ _ _ = W5
  obtain ⟨f, hB5, far⟩ := set5 F.out HV.out (Nat.le_refl _) 0 1 2 3 4 _ _ _ _ _ hW5
  replace f : W5.heap[W.heap.size]? = some (.cells [.int .i64 k0, .int .i64 i0, .int .u64 b0, .string s0, .int .u64 r0, .int .i64 0, .int .i64 0, .int .u64 0, .string ⟨#[]⟩, .int .u64 0].toArray 47 (0, 0)) := f
  replace HV := hid hB5
  replace hw0 := (far _ _ hWW).trans hw0
  replace hw1 := (far _ _ hWW).trans hw1
  clear hW5 F cv zv e13 far hB5
  go_wp2
  rw [rounds_succ]
  go_upto_region 8 with (go_at_call 18; (with_reducible refine (cu1 _ HV.out).mono ?_); rintro e W2 ⟨rfl, hB2⟩; clear cu1)
  have hB3 : Below W2.heap.size W2 (W2.alloc (.cells #[.int .i64 k1, .int .i64 i1, .int .u64 b1, .string s1, .int .u64 r1] 47)) := (Below.refl _ W2).alloc (Nat.le_refl _) _
  have hB4 := hB2.trans (hB3.mono hB2.size)
  replace HV := hid (HV.out.trans (hB4.mono HV.out.size))
  replace f := row_below f hB4
  replace hw0 := cell_keep hB4 hw0
  replace hw1 := cell_keep hB4 hw1
  have e13 := World.cell?_alloc_new W2 #[.int .i64 k1, .int .i64 i1, .int .u64 b1, .string s1, .int .u64 r1] 47
  have cv := row_cells f
  have zv := row_thaw f
  clear hB2 hB3 hB4
  generalize W2.heap.size = b13 at *
  generalize W2.alloc (.cells #[.int .i64 k1, .int .i64 i1, .int .u64 b1, .string s1, .int .u64 r1] 47) = W3 at *
  have F := hid f
  clear f
  go_upto_region 9 with fail
  generalize hW5 : World.setCell _ _ _ = W5
  obtain ⟨f, hB5, far⟩ := set5 F.out HV.out (Nat.le_refl _) 5 6 7 8 9 _ _ _ _ _ hW5
  replace f : W5.heap[W.heap.size]? = some (.cells [.int .i64 k0, .int .i64 i0, .int .u64 b0, .string s0, .int .u64 r0, .int .i64 k1, .int .i64 i1, .int .u64 b1, .string s1, .int .u64 r1].toArray 47 (0, 0)) := f
  replace HV := hid hB5
  replace hw0 := (far _ _ hWW).trans hw0
  replace hw1 := (far _ _ hWW).trans hw1
  clear hW5 F cv zv e13 far hB5
  go_wp2
  rw [rounds_succ]
  go_upto_region 10 with fail
  have hBa : Below W5.heap.size W5 (W5.alloc (.cells #[.slice o1 rs.length cap1, .slice (some ⟨wb, 0, none⟩) 2 2] 31)) := (Below.refl _ W5).alloc (Nat.le_refl _) _
  have e0 := World.cell?_alloc_new W5 #[.slice o1 rs.length cap1, .slice (some ⟨wb, 0, none⟩) 2 2] 31
  have ww : WordsAt W5 (.slice (some ⟨wb, 0, none⟩) 2 2) [a, b] := words_of2 hw0 hw1 lt0 lt1
  have cs := sconcat_c (W5.alloc (.cells #[.slice o1 rs.length cap1, .slice (some ⟨wb, 0, none⟩) 2 2] 31)) W5.heap.size 2 _ _ rs [a, b] (e0 0) (e0 1) (words_below (words_below HR.out HV.out) hBa) (words_below ww hBa) (by simp only [List.length_cons, List.length_nil]; omega) (by simp)
  have cx : ∀ (w2 : World) (v : Value), Below (W5.alloc (.cells #[.slice o1 rs.length cap1, .slice (some ⟨wb, 0, none⟩) 2 2] 31)).heap.size (W5.alloc (.cells #[.slice o1 rs.length cap1, .slice (some ⟨wb, 0, none⟩) 2 2] 31)) w2 → WordsAt w2 v (rs ++ [a, b]) → Calls Tryz.prog kf #[.agg #[.pointer (some ⟨hb, 0, none⟩), .slice (some ⟨wb, 0, none⟩) 2 2, .slice (some ⟨W.heap.size, 0, none⟩) 2 2, v], .pointer (some ⟨cp, 0, none⟩), .pointer (some ⟨cq, 0, none⟩)] w2 R := by
    intro w2 v hB hv
    have hBb := hBa.trans (hB.mono hBa.size)
    exact cj w2 W.heap.size v (HV.out.trans (hBb.mono HV.out.size)) (row_cells (row_below f hBb)) hv
  clear cj f ww e0 hBa HR HV hw0 hw1
  go_wp2_with (first | (go_at_call 44; (with_reducible refine cs.mono ?_); rintro e w2 ⟨v, rfl, hB2, hw2⟩; (obtain ⟨o2, cap2, hv2, -⟩ := id hw2); (rw [show (rs ++ [a, b]).length = rs.length + 2 from by simp] at hv2); subst hv2; clear cs) | (go_at_fn kf; (with_reducible refine (cx _ _ hB2 hw2).mono ?_); intro e w3 h3; (obtain ⟨x, y, rfl⟩ := T.out e w3 h3); clear cx))
  exact h3
set_option maxRecDepth 100000 in
theorem Binary_k2 (W : World) (hb : Nat) (op : ByteArray) (a b : Nat) (kf : Nat) (eg : ∀ args w, (callFunc kf args).run Tryz.prog w = .ok (.enter kf args) w) (P : World → Nat → Prop) (hP : ∀ w w' cp, P w cp → Below w.heap.size w w' → P w' cp) (vr : Value) (rs : List Nat) (hr : WordsAt W vr rs) (hl : rs.length ≤ 999000) (k0 i0 b0 r0 : Int) (s0 : ByteArray) (k1 i1 b1 r1 : Int) (s1 : ByteArray) (lt0 : a < 18446744073709551616) (lt1 : b < 18446744073709551616)
    (cbin : Calls Tryz.prog 21 #[.string op] W fun e w' => ∃ cp cq, e = .returned (.func (.func kf) #[] #[.pointer (some ⟨cp, 0, none⟩), .pointer (some ⟨cq, 0, none⟩)]) ∧ P w' cp ∧ Below W.heap.size W w')
    (cu0 : ∀ w', Below W.heap.size W w' → Calls Tryz.prog 18 #[.pointer (some ⟨hb, 0, none⟩), .int .u64 (a : Nat)] w' fun e w'' => e = .returned (.tuple #[.agg #[.int .i64 k0, .int .i64 i0, .int .u64 b0, .string s0, .int .u64 r0], .int .i64 0]) ∧ Below w'.heap.size w' w'') (cu1 : ∀ w', Below W.heap.size W w' → Calls Tryz.prog 18 #[.pointer (some ⟨hb, 0, none⟩), .int .u64 (b : Nat)] w' fun e w'' => e = .returned (.tuple #[.agg #[.int .i64 k1, .int .i64 i1, .int .u64 b1, .string s1, .int .u64 r1], .int .i64 0]) ∧ Below w'.heap.size w' w'')
    {R : Ending → World → Prop} (two : ∀ e w', R e w' → ∃ x y, e = .returned (.tuple #[.int .u64 x, .int .i64 y]))
    (cj : ∀ (w' : World) (cp cq wb vb : Nat) (vr' : Value), Below W.heap.size W w' → P w' cp → w'.cell? ⟨wb, 0, none⟩ = some (.int .u64 (a : Nat)) → w'.cell? ⟨wb, 1, none⟩ = some (.int .u64 (b : Nat)) → (∀ j, w'.cell? ⟨vb, j, none⟩ = #[.int .i64 k0, .int .i64 i0, .int .u64 b0, .string s0, .int .u64 r0, .int .i64 k1, .int .i64 i1, .int .u64 b1, .string s1, .int .u64 r1][j]?) → WordsAt w' vr' (rs ++ [a, b]) → Calls Tryz.prog kf #[.agg #[.pointer (some ⟨hb, 0, none⟩), .slice (some ⟨wb, 0, none⟩) 2 2, .slice (some ⟨vb, 0, none⟩) 2 2, vr'], .pointer (some ⟨cp, 0, none⟩), .pointer (some ⟨cq, 0, none⟩)] w' R) :
    Calls Tryz.prog 10 #[.pointer (some ⟨hb, 0, none⟩), .string op, .int .u64 (a : Nat), .int .u64 (b : Nat), vr] W R := by
  obtain ⟨o1, cap1, hvr, -⟩ := id hr
  subst hvr
  have cd : ∀ (W1 : World) (cp cq : Nat), Below W.heap.size W W1 → P W1 cp → Calls Tryz.prog 15 #[.pointer (some ⟨hb, 0, none⟩), .func (.func kf) #[] #[.pointer (some ⟨cp, 0, none⟩), .pointer (some ⟨cq, 0, none⟩)], .slice (some ⟨W1.heap.size, 0, none⟩) 2 2, .slice o1 rs.length cap1] (W1.alloc (.cells #[.int .u64 (a : Nat), .int .u64 (b : Nat)] 22)) R := by
    intro W1 cp cq hB hc
    have hB1 : Below W1.heap.size W1 (W1.alloc (.cells #[.int .u64 (a : Nat), .int .u64 (b : Nat)] 22)) := (Below.refl _ W1).alloc (Nat.le_refl _) _
    have e1 := World.cell?_alloc_new W1 #[.int .u64 (a : Nat), .int .u64 (b : Nat)] 22
    have hB2 := hB.trans (hB1.mono hB.size)
    refine done2_k2 _ hb W1.heap.size a b kf eg cp cq _ rs (words_below hr hB2) hl k0 i0 b0 r0 s0 k1 i1 b1 r1 s1 (e1 0) (e1 1) lt0 lt1 (fun w' h => cu0 w' (hB2.trans (h.mono hB2.size))) (fun w' h => cu1 w' (hB2.trans (h.mono hB2.size))) two (fun w' vb vr' h hv hw => cj w' cp cq W1.heap.size vb vr' (hB2.trans (h.mono hB2.size)) (hP _ _ _ (hP _ _ _ hc hB1) h) (cell_keep h (e1 0)) (cell_keep h (e1 1)) hv hw)
  have T := hid two
  clear two cj hr hP cu0 cu1 eg hl lt0 lt1
  have heq := fn_eql
  go_enter Tryz.func10, Tryz.ntmps10
  go_wp2_with (first | (go_at_call 21; (with_reducible refine cbin.mono ?_); rintro e W1 ⟨cp, cq, rfl, hc, hB⟩; (replace cd := cd _ cp cq hB hc); clear cbin hB hc) | (go_at_call 15; (with_reducible refine cd.mono ?_); intro e w3 h3; (obtain ⟨x, y, rfl⟩ := T.out e w3 h3); clear cd))
  exact h3
theorem swapped_c (g : Nat) (W : World) : Calls Tryz.prog 124 #[.func (.func g) #[] #[]] W fun e w' => e = .returned (.func (.func 168) #[] #[.pointer (some ⟨W.heap.size, 0, none⟩)]) ∧ w'.cell? ⟨W.heap.size, 0, none⟩ = some (.func (.func g) #[] #[]) ∧ Below W.heap.size W w' := by
  have hB : Below W.heap.size W (W.alloc (.cells #[.func (.func g) #[] #[]] 146)) := (Below.refl _ W).alloc (Nat.le_refl _) _
  have hc : (W.alloc (.cells #[.func (.func g) #[] #[]] 146)).cell? ⟨W.heap.size, 0, none⟩ = some (.func (.func g) #[] #[]) := by rw [World.cell?_alloc_new]; rfl
  have H := hid (And.intro hc hB)
  clear hc hB
  go_enter Tryz.func124, Tryz.ntmps124
  go_wp2
  go_ret
  exact ⟨rfl, H.out⟩
theorem orders_c (g h : Nat) (cs : Array Value) (W : World) : Calls Tryz.prog 119 #[.func (.func g) #[] cs, .func (.func h) #[] #[]] W fun e w' => ∃ cp cq, e = .returned (.func (.func 165) #[] #[.pointer (some ⟨cp, 0, none⟩), .pointer (some ⟨cq, 0, none⟩)]) ∧ w'.cell? ⟨cp, 0, none⟩ = some (.func (.func g) #[] cs) ∧ Below W.heap.size W w' := by
  have hB1 : Below W.heap.size W (W.alloc (.cells #[.func (.func g) #[] cs] 146)) := (Below.refl _ W).alloc (Nat.le_refl _) _
  have hB : Below W.heap.size W ((W.alloc (.cells #[.func (.func g) #[] cs] 146)).alloc (.cells #[.func (.func h) #[] #[]] 147)) := hB1.alloc (by rw [World.size_alloc]; omega) _
  have hc : ((W.alloc (.cells #[.func (.func g) #[] cs] 146)).alloc (.cells #[.func (.func h) #[] #[]] 147)).cell? ⟨W.heap.size, 0, none⟩ = some (.func (.func g) #[] cs) := cell_keep ((Below.refl _ _).alloc (Nat.le_refl _) _) (by rw [World.cell?_alloc_new]; rfl)
  have H := hid (And.intro hc hB)
  clear hc hB hB1
  go_enter Tryz.func119, Tryz.ntmps119
  go_wp2
  go_ret
  exact ⟨_, _, rfl, H.out⟩
theorem swapped1_g (W : World) (cs g : Nat) (eg : ∀ args w, (callFunc g args).run Tryz.prog w = .ok (.enter g args) w) (hc : W.cell? ⟨cs, 0, none⟩ = some (.func (.func g) #[] #[])) (a0 a1 r : Bool) (x0 y0 x1 y1 : Int)
    (cg : ∀ w, Calls Tryz.prog g #[.agg #[.bool a1, .int .i64 x1, .int .u64 y1], .agg #[.bool a0, .int .i64 x0, .int .u64 y0]] w fun e w' => e = .returned (.bool r) ∧ Gr w w') :
    Calls Tryz.prog 168 #[.agg #[.bool a0, .int .i64 x0, .int .u64 y0], .agg #[.bool a1, .int .i64 x1, .int .u64 y1], .pointer (some ⟨cs, 0, none⟩)] W fun e w' => e = .returned (.bool r) ∧ Below W.heap.size W w' := by
  have hB : Below W.heap.size W ((W.alloc (.cells #[.bool a0, .int .i64 x0, .int .u64 y0] 30)).alloc (.cells #[.bool a1, .int .i64 x1, .int .u64 y1] 30)) := ((Below.refl _ W).alloc (Nat.le_refl _) _).alloc (by rw [World.size_alloc]; omega) _
  obtain ⟨fA, fB, -⟩ := (Gr.refl ((W.alloc (.cells #[.bool a0, .int .i64 x0, .int .u64 y0] 30)).alloc (.cells #[.bool a1, .int .i64 x1, .int .u64 y1] 30))).two (Nat.zero_lt_succ _) (Nat.zero_lt_succ _)
  replace hc := cell_keep hB hc
  have HB := hid hB
  clear hB
  go_enter Tryz.func168, Tryz.ntmps168
  go_wp2_with (go_at_fn g; (with_reducible refine (cg _).mono ?_); rintro e w2 ⟨rfl, hg⟩; (have hB2 := hid hg.below); clear cg hg)
  go_ret
  exact ⟨rfl, HB.out.trans (hB2.out.mono HB.out.size)⟩
section
variable {W : World} {hb vb : Nat} {vw vr : Value}
set_option maxRecDepth 100000 in
theorem orders1_g (cp cq g : Nat) (eg : ∀ args w, (callFunc g args).run Tryz.prog w = .ok (.enter g args) w) (hc : W.cell? ⟨cp, 0, none⟩ = some (.func (.func g) #[] #[])) (a0 a1 r : Bool) (x0 y0 x1 y1 : Int)
    (cn : ∀ w', Below W.heap.size W w' → Calls Tryz.prog 98 #[.agg #[.pointer (some ⟨hb, 0, none⟩), vw, .slice (some ⟨vb, 0, none⟩) 2 2, vr]] w' fun e w'' => e = .returned (.tuple #[.agg #[.bool a0, .int .i64 x0, .int .u64 y0], .agg #[.bool a1, .int .i64 x1, .int .u64 y1], .bool true]) ∧ Gr w' w'')
    (cg : ∀ w', Below W.heap.size W w' → Calls Tryz.prog g #[.agg #[.bool a0, .int .i64 x0, .int .u64 y0], .agg #[.bool a1, .int .i64 x1, .int .u64 y1]] w' fun e w'' => e = .returned (.bool r) ∧ Below w'.heap.size w' w'') :
    Calls Tryz.prog 165 #[.agg #[.pointer (some ⟨hb, 0, none⟩), vw, .slice (some ⟨vb, 0, none⟩) 2 2, vr], .pointer (some ⟨cp, 0, none⟩), .pointer (some ⟨cq, 0, none⟩)] W fun e w' => e = .returned (.tuple #[.int .u64 (boolW r), .int .i64 0]) ∧ Below W.heap.size W w' := by
  have hB1 : Below W.heap.size W (W.alloc (.cells #[.pointer (some ⟨hb, 0, none⟩), vw, .slice (some ⟨vb, 0, none⟩) 2 2, vr] 83)) := (Below.refl _ W).alloc (Nat.le_refl _) _
  have e1 := World.cell?_alloc_new W #[.pointer (some ⟨hb, 0, none⟩), vw, .slice (some ⟨vb, 0, none⟩) 2 2, vr] 83
  have H1 := hid hB1
  have c1 := cn _ hB1
  clear cn
  replace hc := cell_keep hB1 hc
  clear hB1
  go_enter Tryz.func165, Tryz.ntmps165
  go_upto_region 1 with fail
  generalize W.alloc (.cells #[.pointer (some ⟨hb, 0, none⟩), vw, .slice (some ⟨vb, 0, none⟩) 2 2, vr] 83) = W1 at *
  go_upto_region 2 with (go_at_call 98; (with_reducible refine c1.mono ?_); rintro e W2 ⟨rfl, hg⟩; clear c1)
  have hB2 := hg.below
  have hB3 : Below W2.heap.size W2 ((W2.alloc (.cells #[.bool a0, .int .i64 x0, .int .u64 y0] 30)).alloc (.cells #[.bool a1, .int .i64 x1, .int .u64 y1] 30)) := ((Below.refl _ W2).alloc (Nat.le_refl _) _).alloc (by rw [World.size_alloc]; omega) _
  obtain ⟨fA, fB, -⟩ := (Gr.refl ((W2.alloc (.cells #[.bool a0, .int .i64 x0, .int .u64 y0] 30)).alloc (.cells #[.bool a1, .int .i64 x1, .int .u64 y1] 30))).two (Nat.zero_lt_succ _) (Nat.zero_lt_succ _)
  have hB4 := hB2.trans (hB3.mono hB2.size)
  replace H1 := hid (H1.out.trans (hB4.mono H1.out.size))
  replace hc := cell_keep hB4 hc
  have cx := cg _ H1.out
  clear cg
  clear hg hB2 hB3 hB4 e1
  generalize W2.heap.size + 1 = bB at *
  generalize W2.heap.size = bA at *
  generalize ((W2.alloc (.cells #[.bool a0, .int .i64 x0, .int .u64 y0] 30)).alloc (.cells #[.bool a1, .int .i64 x1, .int .u64 y1] 30)) = W3 at *
  go_wp2_with (first | (go_at_fn g; (with_reducible refine cx.mono ?_); rintro e W4 ⟨rfl, hB5⟩; (replace hB5 := hid hB5); clear cx) | (go_at_call 24; (with_reducible refine (fromBool_c _ _).mono ?_); rintro e w' ⟨rfl, hw⟩; (have hw' := hw.symm); subst hw'; clear hw))
  go_ret2
  exact ⟨rfl, H1.out.trans (hB5.out.mono H1.out.size)⟩
set_option maxRecDepth 100000 in
theorem orders1_s (cp cq g : Nat) (cs : Nat) (eg : ∀ args w, (callFunc g args).run Tryz.prog w = .ok (.enter g args) w) (hc : W.cell? ⟨cp, 0, none⟩ = some (.func (.func g) #[] #[.pointer (some ⟨cs, 0, none⟩)])) (a0 a1 r : Bool) (x0 y0 x1 y1 : Int)
    (cn : ∀ w', Below W.heap.size W w' → Calls Tryz.prog 98 #[.agg #[.pointer (some ⟨hb, 0, none⟩), vw, .slice (some ⟨vb, 0, none⟩) 2 2, vr]] w' fun e w'' => e = .returned (.tuple #[.agg #[.bool a0, .int .i64 x0, .int .u64 y0], .agg #[.bool a1, .int .i64 x1, .int .u64 y1], .bool true]) ∧ Gr w' w'')
    (cg : ∀ w', Below W.heap.size W w' → Calls Tryz.prog g #[.agg #[.bool a0, .int .i64 x0, .int .u64 y0], .agg #[.bool a1, .int .i64 x1, .int .u64 y1], .pointer (some ⟨cs, 0, none⟩)] w' fun e w'' => e = .returned (.bool r) ∧ Below w'.heap.size w' w'') :
    Calls Tryz.prog 165 #[.agg #[.pointer (some ⟨hb, 0, none⟩), vw, .slice (some ⟨vb, 0, none⟩) 2 2, vr], .pointer (some ⟨cp, 0, none⟩), .pointer (some ⟨cq, 0, none⟩)] W fun e w' => e = .returned (.tuple #[.int .u64 (boolW r), .int .i64 0]) ∧ Below W.heap.size W w' := by
  have hB1 : Below W.heap.size W (W.alloc (.cells #[.pointer (some ⟨hb, 0, none⟩), vw, .slice (some ⟨vb, 0, none⟩) 2 2, vr] 83)) := (Below.refl _ W).alloc (Nat.le_refl _) _
  have e1 := World.cell?_alloc_new W #[.pointer (some ⟨hb, 0, none⟩), vw, .slice (some ⟨vb, 0, none⟩) 2 2, vr] 83
  have H1 := hid hB1
  have c1 := cn _ hB1
  clear cn
  replace hc := cell_keep hB1 hc
  clear hB1
  go_enter Tryz.func165, Tryz.ntmps165
  go_upto_region 1 with fail
  generalize W.alloc (.cells #[.pointer (some ⟨hb, 0, none⟩), vw, .slice (some ⟨vb, 0, none⟩) 2 2, vr] 83) = W1 at *
  go_upto_region 2 with (go_at_call 98; (with_reducible refine c1.mono ?_); rintro e W2 ⟨rfl, hg⟩; clear c1)
  have hB2 := hg.below
  have hB3 : Below W2.heap.size W2 ((W2.alloc (.cells #[.bool a0, .int .i64 x0, .int .u64 y0] 30)).alloc (.cells #[.bool a1, .int .i64 x1, .int .u64 y1] 30)) := ((Below.refl _ W2).alloc (Nat.le_refl _) _).alloc (by rw [World.size_alloc]; omega) _
  obtain ⟨fA, fB, -⟩ := (Gr.refl ((W2.alloc (.cells #[.bool a0, .int .i64 x0, .int .u64 y0] 30)).alloc (.cells #[.bool a1, .int .i64 x1, .int .u64 y1] 30))).two (Nat.zero_lt_succ _) (Nat.zero_lt_succ _)
  have hB4 := hB2.trans (hB3.mono hB2.size)
  replace H1 := hid (H1.out.trans (hB4.mono H1.out.size))
  replace hc := cell_keep hB4 hc
  have cx := cg _ H1.out
  clear cg
  clear hg hB2 hB3 hB4 e1
  generalize W2.heap.size + 1 = bB at *
  generalize W2.heap.size = bA at *
  generalize ((W2.alloc (.cells #[.bool a0, .int .i64 x0, .int .u64 y0] 30)).alloc (.cells #[.bool a1, .int .i64 x1, .int .u64 y1] 30)) = W3 at *
  go_wp2_with (first | (go_at_fn g; (with_reducible refine cx.mono ?_); rintro e W4 ⟨rfl, hB5⟩; (replace hB5 := hid hB5); clear cx) | (go_at_call 24; (with_reducible refine (fromBool_c _ _).mono ?_); rintro e w' ⟨rfl, hw⟩; (have hw' := hw.symm); subst hw'; clear hw))
  go_ret2
  exact ⟨rfl, H1.out.trans (hB5.out.mono H1.out.size)⟩
set_option maxRecDepth 100000 in
theorem same_g (a0 a1 r : Bool) (x0 y0 x1 y1 : Int)
    (cn : ∀ w', Below W.heap.size W w' → Calls Tryz.prog 98 #[.agg #[.pointer (some ⟨hb, 0, none⟩), vw, .slice (some ⟨vb, 0, none⟩) 2 2, vr]] w' fun e w'' => e = .returned (.tuple #[.agg #[.bool a0, .int .i64 x0, .int .u64 y0], .agg #[.bool a1, .int .i64 x1, .int .u64 y1], .bool true]) ∧ Gr w' w'')
    (cg : ∀ w', Calls Tryz.prog 162 #[.agg #[.bool a0, .int .i64 x0, .int .u64 y0], .agg #[.bool a1, .int .i64 x1, .int .u64 y1]] w' fun e w'' => e = .returned (.bool r) ∧ Gr w' w'') :
    Calls Tryz.prog 112 #[.agg #[.pointer (some ⟨hb, 0, none⟩), vw, .slice (some ⟨vb, 0, none⟩) 2 2, vr]] W fun e w' => e = .returned (.tuple #[.bool r, .int .i64 0]) ∧ Below W.heap.size W w' := by
  have hB1 : Below W.heap.size W (W.alloc (.cells #[.pointer (some ⟨hb, 0, none⟩), vw, .slice (some ⟨vb, 0, none⟩) 2 2, vr] 83)) := (Below.refl _ W).alloc (Nat.le_refl _) _
  have e1 := World.cell?_alloc_new W #[.pointer (some ⟨hb, 0, none⟩), vw, .slice (some ⟨vb, 0, none⟩) 2 2, vr] 83
  have H1 := hid hB1
  have c1 := cn _ hB1
  clear cn
  clear hB1
  go_enter Tryz.func112, Tryz.ntmps112
  go_upto_region 1 with fail
  generalize W.alloc (.cells #[.pointer (some ⟨hb, 0, none⟩), vw, .slice (some ⟨vb, 0, none⟩) 2 2, vr] 83) = W1 at *
  go_upto_region 2 with (go_at_call 98; (with_reducible refine c1.mono ?_); rintro e W2 ⟨rfl, hg⟩; clear c1)
  have hB2 := hg.below
  have hB3 : Below W2.heap.size W2 ((W2.alloc (.cells #[.bool a0, .int .i64 x0, .int .u64 y0] 30)).alloc (.cells #[.bool a1, .int .i64 x1, .int .u64 y1] 30)) := ((Below.refl _ W2).alloc (Nat.le_refl _) _).alloc (by rw [World.size_alloc]; omega) _
  obtain ⟨fA, fB, -⟩ := (Gr.refl ((W2.alloc (.cells #[.bool a0, .int .i64 x0, .int .u64 y0] 30)).alloc (.cells #[.bool a1, .int .i64 x1, .int .u64 y1] 30))).two (Nat.zero_lt_succ _) (Nat.zero_lt_succ _)
  have hB4 := hB2.trans (hB3.mono hB2.size)
  replace H1 := hid (H1.out.trans (hB4.mono H1.out.size))
  clear hg hB2 hB3 hB4 e1
  generalize W2.heap.size + 1 = bB at *
  generalize W2.heap.size = bA at *
  generalize ((W2.alloc (.cells #[.bool a0, .int .i64 x0, .int .u64 y0] 30)).alloc (.cells #[.bool a1, .int .i64 x1, .int .u64 y1] 30)) = W3 at *
  go_wp2_with (go_at_call 162; (with_reducible refine (cg _).mono ?_); rintro e W4 ⟨rfl, hg5⟩; (have hB5 := hid hg5.below); clear cg hg5)
  go_ret2
  exact ⟨rfl, H1.out.trans (hB5.out.mono H1.out.size)⟩
set_option maxRecDepth 100000 in
theorem equates1_g (cp : Nat) (ask r : Bool) (hc : W.cell? ⟨cp, 0, none⟩ = some (.bool ask))
    (cs : ∀ w', Below W.heap.size W w' → Calls Tryz.prog 112 #[.agg #[.pointer (some ⟨hb, 0, none⟩), vw, .slice (some ⟨vb, 0, none⟩) 2 2, vr]] w' fun e w'' => e = .returned (.tuple #[.bool r, .int .i64 0]) ∧ Below w'.heap.size w' w'') :
    Calls Tryz.prog 111 #[.agg #[.pointer (some ⟨hb, 0, none⟩), vw, .slice (some ⟨vb, 0, none⟩) 2 2, vr], .pointer (some ⟨cp, 0, none⟩)] W fun e w' => e = .returned (.tuple #[.int .u64 (boolW (r == ask)), .int .i64 0]) ∧ Below W.heap.size W w' := by
  have hB1 : Below W.heap.size W (W.alloc (.cells #[.pointer (some ⟨hb, 0, none⟩), vw, .slice (some ⟨vb, 0, none⟩) 2 2, vr] 83)) := (Below.refl _ W).alloc (Nat.le_refl _) _
  have H1 := hid hB1
  have c1 := cs _ hB1
  replace hc := cell_keep hB1 hc
  clear cs hB1
  go_enter Tryz.func111, Tryz.ntmps111
  go_upto_region 1 with fail
  have e1 := World.cell?_alloc_new W #[.pointer (some ⟨hb, 0, none⟩), vw, .slice (some ⟨vb, 0, none⟩) 2 2, vr] 83
  generalize W.alloc (.cells #[.pointer (some ⟨hb, 0, none⟩), vw, .slice (some ⟨vb, 0, none⟩) 2 2, vr] 83) = W1 at *
  go_upto_region 2 with (go_at_call 112; (with_reducible refine c1.mono ?_); rintro e W2 ⟨rfl, hB2⟩; (replace hc := cell_keep hB2 hc); (replace hB2 := hid hB2); clear c1)
  clear e1
  go_wp2_with (go_at_call 24; (with_reducible refine (fromBool_c _ _).mono ?_); rintro e w' ⟨rfl, hw⟩; (have hw' := hw.symm); subst hw'; clear hw)
  go_ret2
  exact ⟨rfl, H1.out.trans (hB2.out.mono H1.out.size)⟩
end
end Go.Proofs.YtgmimmdojkoppaaGreatDoor.W.Nu
