import Derived.Test.YtkjaoandifednaaGreatDoorKH
import Derived.Test.YtkjaoandifednaaGreatDoorKI
/- Stage 12, TreeCuts: the walk, over what Parse answers. -/
namespace Go.Proofs.YtkjaoandifednaaGreatDoor.W.Tr
open Go.ChangeShapes Go.WideShapes Go.RowKit Go.Shelf
set_option linter.unusedVariables false
set_option linter.unusedSimpArgs false
theorem two_set {w : World} {gb : Nat} {z0 z1 : Value} {t : TypeId} (hg : w.heap[gb]? = some (.cells #[z0, z1] t (0, 0))) (v0 v1 : Value) : ((w.setCell ⟨gb, 0, none⟩ v0).setCell ⟨gb, 1, none⟩ v1).heap[gb]? = some (.cells #[v0, v1] t (0, 0)) := by
  have h0 : w.heap[gb]? = some (.cells [z0, z1].toArray t (0, 0)) := hg
  have h1 := heap_setX h0 0 v0
  have h2 := heap_setX h1 1 v1
  exact h2
set_option maxRecDepth 100000 in
set_option maxHeartbeats 2000000 in
theorem cuts_x (src : ByteArray) (hs : src.size ≤ 6000) (a1 : Int) (n n1 : Nat) (x1 y1 x3 y3 : Int) (b : Bool) (hn : n ≤ src.size) (hm : a1.tmod ((src.size : Int) + 1) = n ∨ a1.tmod ((src.size : Int) + 1) = -(n : Int) ∧ 0 < n) (h3 : (x3 == 0) = true ∨ (x3 == 0) = false ∧ y3 ≤ n)
    (c0 : ∀ w, Tabs w → MarksIn w → Calls Tryz.prog 8 #[.string src] w fun e w' => ∃ r, e = .returned (.tuple #[r, .agg #[.int .i64 0, .int .i64 0]]) ∧ Below w.heap.size w w')
    (c1 : ∀ w, Tabs w → MarksIn w → Calls Tryz.prog 8 #[.string (src ++ ⟨#[32, 33]⟩)] w fun e w' => ∃ o cap, e = .returned (.tuple #[.slice o n1 cap, .agg #[.int .i64 x1, .int .i64 y1]]) ∧ Below w.heap.size w w')
    (c2 : ∀ w, Tabs w → MarksIn w → Calls Tryz.prog 8 #[.string (src ++ ⟨#[10, 125]⟩)] w fun e w' => e = .returned (.tuple #[.slice none 0 0, .agg #[.int .i64 70, .int .i64 ((src.size : Int) + 1)]]) ∧ Below w.heap.size w w')
    (c3 : ∀ w, Tabs w → MarksIn w → Calls Tryz.prog 8 #[.string (src.extract 0 n)] w fun e w' => ∃ r, e = .returned (.tuple #[r, .agg #[.int .i64 x3, .int .i64 y3]]) ∧ Below w.heap.size w w')
    (cr : ∀ w, Calls Tryz.prog 12 #[.string src] w fun e w' => e = .returned (.bool b) ∧ w' = w)
    (ca : ∀ w, Tabs w → MarksIn w → Calls Tryz.prog 9 #[] w fun e w' => e = .returned (.bool true) ∧ Below w.heap.size w w')
    (h1 : n1 = 0) (hw : (x1 == 60) = true ∧ (y1 == (src.size : Int) + 1) = true ∨ b = true ∧ (x1 == 60) = false ∨ b = true ∧ (x1 == 60) = true ∧ (y1 == (src.size : Int) + 1) = false)
    (w : World) (ht : Tabs w) (hm : MarksIn w) : Calls Tryz.prog 4 #[.string src, .int .i64 a1] w fun e w' => e = .returned (.bool true) ∧ Below w.heap.size w w' := by
  subst h1
  (have j1 : ¬ ((src.size : Nat) : Int) > 6000 := by omega); (have j2 : IntKind.i64.wrap ((src.size : Int) + 1) = (src.size : Int) + 1 := by rw [IntKind.wrap_i64]; omega); (have z1 : ¬ 9223372036854775807 < src.size + 2 := by omega); (have HT := hid ht); (have HM := hid hm); clear ht hm hs; (have d0 := c0 w HT.out HM.out); clear c0; go_enter Tryz.func4, Tryz.ntmps4; go_upto_region 6 with (go_at_call 8; (with_reducible refine d0.mono ?_); rintro e w2 ⟨r0, rfl, hB2⟩; (have HB2 := hid hB2); clear hB2 d0); (have b3 := HB2.out.alloc (HB2.out.size) (.cells #[.int .i64 0, .int .i64 0] 25)); (have HB3 := hid b3); generalize hW3 : World.alloc w2 _ = W3 at *; (have d1 := c1 W3 (HT.out.below b3) (HM.out.below b3)); clear hW3 c1 b3; go_upto_region 7 with (go_at_call 8; (with_reducible refine d1.mono ?_); rintro e w4 ⟨o1, cap1, rfl, hB4⟩; (have HB4 := hid hB4); clear hB4 d1); (have b4 := HB3.out.trans (HB4.out.mono HB3.out.size)); (have hG : w.heap.size ≤ w4.heap.size := b4.size); (have b5 := b4.alloc b4.size (.cells #[.int .i64 x1, .int .i64 y1] 25)); (have f5 := World.alloc_heap_new w4 (.cells #[.int .i64 x1, .int .i64 y1] 25)); generalize hW5 : World.alloc w4 _ = W5 at *; generalize w4.heap.size = G at *; clear hW5 HB4 HB2 HB3 b4
  have e5 := row_cellsX f5
  have HB5 := hid b5
  have F5 := hid f5
  have d2 := c2 W5 (HT.out.below b5) (HM.out.below b5)
  clear b5 f5 c2
  rcases hw with ⟨q1, q2⟩ | ⟨rfl, q1⟩ | ⟨rfl, q1, q2⟩
  all_goals (
    go_upto_region 9 with (go_at_call 12; (with_reducible refine (cr _).mono ?_); rintro e w' ⟨rfl, hw⟩; rw [hw]; clear hw w')
    clear e5
    go_upto_region 10 with (go_at_call 8; (with_reducible refine d2.mono ?_); rintro e w6 ⟨rfl, hB6⟩; (have f6 := row_keepX F5.out hB6); (have e6 := row_cellsX f6); (have z6 := row_thawX f6); (have F6 := hid f6); (have HB6 := hid (HB5.out.trans (hB6.mono HB5.out.size))); clear f6 hB6 d2)
    have f7 := two_set F6.out (.int .i64 70) (.int .i64 ((src.size : Int) + 1))
    have b7 := (HB6.out.setCell (p := ⟨G, 0, none⟩) hG (.int .i64 70)).setCell (p := ⟨G, 1, none⟩) hG (.int .i64 ((src.size : Int) + 1))
    generalize hW7 : World.setCell (World.setCell w6 _ _) _ _ = W7 at *
    clear hW7 F6 HB6 e6 z6 F5 HB5
    have e7 := row_cellsX f7
    have HB7 := hid b7
    have F7 := hid f7
    have d3 := c3 W7 (HT.out.below b7) (HM.out.below b7)
    clear b7 f7 c3
    go_upto_region 12 with fail
    clear e7
    go_upto_region 13 with fail
    have n2 : (n : Int) ≤ src.size := by omega
    have n3 : ¬ (n : Int) < 0 := by omega
    have n4 : (0 : Int) ≤ n := by omega
    rcases hm with hm | ⟨hm, hm2⟩
    · rw [hm]
      go_upto_region 16 with (go_at_call 8; (with_reducible refine d3.mono ?_); rintro e w8 ⟨r3, rfl, hB8⟩; (have f8 := row_keepX F7.out hB8); (have e8 := row_cellsX f8); (have z8 := row_thawX f8); (have F8 := hid f8); (have HB8 := hid (HB7.out.trans (hB8.mono HB7.out.size))); clear f8 hB8 d3); (have f9 := two_set F8.out (.int .i64 x3) (.int .i64 y3)); (have b9 := (HB8.out.setCell (p := ⟨G, 0, none⟩) hG (.int .i64 x3)).setCell (p := ⟨G, 1, none⟩) hG (.int .i64 y3)); (generalize hW9 : World.setCell (World.setCell w8 _ _) _ _ = W9 at *); clear hW9 F8 HB8 e8 z8 F7 HB7; (have e9 := row_cellsX f9); (have HB9 := hid b9); (have d4 := ca W9 (HT.out.below b9) (HM.out.below b9)); clear b9 f9 ca; rcases h3 with q3 | ⟨q3, q4⟩ <;> (go_wp2_with (go_at_call 9; (with_reducible refine d4.mono ?_); rintro e w10 ⟨rfl, hB10⟩; (have HB10 := hid (HB9.out.trans (hB10.mono HB9.out.size))); clear hB10 d4); go_ret; exact ⟨rfl, HB10.out⟩)
    · have m1 : a1.tmod ((src.size : Int) + 1) < 0 := by omega
      have m2 : IntKind.i64.wrap (-(a1.tmod ((src.size : Int) + 1))) = (n : Int) := by rw [hm, IntKind.wrap_i64]; omega
      clear hm hm2
      generalize a1.tmod ((src.size : Int) + 1) = m at *
      go_upto_region 16 with (go_at_call 8; (with_reducible refine d3.mono ?_); rintro e w8 ⟨r3, rfl, hB8⟩; (have f8 := row_keepX F7.out hB8); (have e8 := row_cellsX f8); (have z8 := row_thawX f8); (have F8 := hid f8); (have HB8 := hid (HB7.out.trans (hB8.mono HB7.out.size))); clear f8 hB8 d3); (have f9 := two_set F8.out (.int .i64 x3) (.int .i64 y3)); (have b9 := (HB8.out.setCell (p := ⟨G, 0, none⟩) hG (.int .i64 x3)).setCell (p := ⟨G, 1, none⟩) hG (.int .i64 y3)); (generalize hW9 : World.setCell (World.setCell w8 _ _) _ _ = W9 at *); clear hW9 F8 HB8 e8 z8 F7 HB7; (have e9 := row_cellsX f9); (have HB9 := hid b9); (have d4 := ca W9 (HT.out.below b9) (HM.out.below b9)); clear b9 f9 ca; rcases h3 with q3 | ⟨q3, q4⟩ <;> (go_wp2_with (go_at_call 9; (with_reducible refine d4.mono ?_); rintro e w10 ⟨rfl, hB10⟩; (have HB10 := hid (HB9.out.trans (hB10.mono HB9.out.size))); clear hB10 d4); go_ret; exact ⟨rfl, HB10.out⟩))
set_option maxRecDepth 100000 in
set_option maxHeartbeats 2000000 in
theorem cuts_y (src : ByteArray) (hs : src.size ≤ 6000) (a1 : Int) (n1 : Nat) (x1 y1 : Int) (h1 : ¬ n1 = 0)
    (c0 : ∀ w, Tabs w → MarksIn w → Calls Tryz.prog 8 #[.string src] w fun e w' => ∃ r, e = .returned (.tuple #[r, .agg #[.int .i64 0, .int .i64 0]]) ∧ Below w.heap.size w w')
    (c1 : ∀ w, Tabs w → MarksIn w → Calls Tryz.prog 8 #[.string (src ++ ⟨#[32, 33]⟩)] w fun e w' => ∃ o cap, e = .returned (.tuple #[.slice o n1 cap, .agg #[.int .i64 x1, .int .i64 y1]]) ∧ Below w.heap.size w w')
    (cr : ∀ w, Calls Tryz.prog 12 #[.string src] w fun e w' => e = .returned (.bool true) ∧ w' = w)
    (w : World) (ht : Tabs w) (hm : MarksIn w) : Calls Tryz.prog 4 #[.string src, .int .i64 a1] w fun e w' => e = .returned (.bool true) ∧ Below w.heap.size w w' := by
  (have j1 : ¬ ((src.size : Nat) : Int) > 6000 := by omega); (have j2 : IntKind.i64.wrap ((src.size : Int) + 1) = (src.size : Int) + 1 := by rw [IntKind.wrap_i64]; omega); (have z1 : ¬ 9223372036854775807 < src.size + 2 := by omega); (have HT := hid ht); (have HM := hid hm); clear ht hm hs; (have d0 := c0 w HT.out HM.out); clear c0; go_enter Tryz.func4, Tryz.ntmps4; go_upto_region 6 with (go_at_call 8; (with_reducible refine d0.mono ?_); rintro e w2 ⟨r0, rfl, hB2⟩; (have HB2 := hid hB2); clear hB2 d0); (have b3 := HB2.out.alloc (HB2.out.size) (.cells #[.int .i64 0, .int .i64 0] 25)); (have HB3 := hid b3); generalize hW3 : World.alloc w2 _ = W3 at *; (have d1 := c1 W3 (HT.out.below b3) (HM.out.below b3)); clear hW3 c1 b3; go_upto_region 7 with (go_at_call 8; (with_reducible refine d1.mono ?_); rintro e w4 ⟨o1, cap1, rfl, hB4⟩; (have HB4 := hid hB4); clear hB4 d1); (have b4 := HB3.out.trans (HB4.out.mono HB3.out.size)); (have hG : w.heap.size ≤ w4.heap.size := b4.size); (have b5 := b4.alloc b4.size (.cells #[.int .i64 x1, .int .i64 y1] 25)); (have f5 := World.alloc_heap_new w4 (.cells #[.int .i64 x1, .int .i64 y1] 25)); generalize hW5 : World.alloc w4 _ = W5 at *; generalize w4.heap.size = G at *; clear hW5 HB4 HB2 HB3 b4
  have HB5 := hid b5
  clear b5 f5
  go_wp2_with (go_at_call 12; (with_reducible refine (cr _).mono ?_); rintro e w' ⟨rfl, hw⟩; rw [hw]; clear hw w')
  go_ret
  exact ⟨rfl, HB5.out⟩
set_option maxRecDepth 100000 in
set_option maxHeartbeats 2000000 in
theorem cuts_bad (src : ByteArray) (hs : src.size ≤ 6000) (a1 : Int) (x0 y0 : Int) (h0 : (x0 != 0) = true)
    (c0 : ∀ w, Tabs w → MarksIn w → Calls Tryz.prog 8 #[.string src] w fun e w' => e = .returned (.tuple #[.slice none 0 0, .agg #[.int .i64 x0, .int .i64 y0]]) ∧ Below w.heap.size w w')
    (w : World) (ht : Tabs w) (hm : MarksIn w) : Calls Tryz.prog 4 #[.string src, .int .i64 a1] w fun e w' => e = .returned (.bool true) ∧ Below w.heap.size w w' := by
  have j1 : ¬ ((src.size : Nat) : Int) > 6000 := by omega
  have d0 := c0 w ht hm
  clear ht hm hs c0
  go_enter Tryz.func4, Tryz.ntmps4
  go_wp2_with (go_at_call 8; (with_reducible refine d0.mono ?_); rintro e w2 ⟨rfl, hB2⟩; (have HB2 := hid hB2); clear hB2 d0)
  go_ret
  exact ⟨rfl, HB2.out.alloc HB2.out.size _⟩
theorem cuts_long (src : ByteArray) (hs : 6000 < src.size) (a1 : Int) (w : World) : Calls Tryz.prog 4 #[.string src, .int .i64 a1] w fun e w' => e = .returned (.bool true) ∧ Below w.heap.size w w' := by
  have j1 : ((src.size : Nat) : Int) > 6000 := by omega
  clear hs
  go_enter Tryz.func4, Tryz.ntmps4
  go_wp2
  go_ret
  exact ⟨rfl, Below.refl _ _⟩
end Go.Proofs.YtkjaoandifednaaGreatDoor.W.Tr
