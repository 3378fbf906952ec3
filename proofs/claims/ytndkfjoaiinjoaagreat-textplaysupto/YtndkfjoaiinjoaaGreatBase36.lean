import Derived.Test.YtndkfjoaiinjoaaGreatBase35
/- The reference's text (casketref8): Sub. -/
namespace Go.Proofs.YtndkfjoaiinjoaaGreat.W
open Go.ChangeShapes Go.WideShapes Go.RowKit Go.Shelf
set_option linter.unusedVariables false
set_option linter.unusedSimpArgs false
theorem str1g (wh : Bool) (i c : Int) (x : ByteArray) (g : Nat) (w2 : World) (h1 : w2.heap[g]? = some (.cells #[.int .i64 (kdW wh), .int .i64 i, .int .u64 0, .string x, .int .i64 c] 95 (0, 0))) : Calls Tryz.prog 80 #[.slice (some ⟨g, 0, none⟩) 1 1] w2 fun e w' => e = .returned (.int .i64 (erW wh)) ∧ w' = w2 := by
  have := strings8_c [wh] w2 g 1 (by
    intro j b hj
    have : j = 0 := by have := (List.getElem?_eq_some_iff.1 hj).1; simp at this; exact this
    subst this
    simp at hj
    subst hj
    exact cell_of_row _ _ 0 _ _ _ h1) (by simp)
  simpa using this
set_option maxRecDepth 100000 in
theorem sub8_no (i c k l : Int) (x : ByteArray) (hp vr : Value) (W : World) : Calls Tryz.prog 45 #[hp, .agg #[.int .i64 2, .int .i64 i, .int .u64 0, .string x, .int .i64 c], .int .i64 k, .int .i64 l, vr] W fun e w' => e = .returned (.tuple #[.agg #[.int .i64 0, .int .i64 0, .int .u64 0, .string ⟨#[]⟩, .int .i64 0], .int .i64 51]) ∧ Below W.heap.size W w' := by
  obtain ⟨w2, hw2⟩ : ∃ w2, ((W.alloc (.cells #[.int .i64 2, .int .i64 i, .int .u64 0, .string x, .int .i64 c] 95)).alloc (.cells #[.int .i64 0, .int .i64 0, .int .u64 0, .string ⟨#[]⟩, .int .i64 0] 95)).alloc (.cells #[.int .i64 2, .int .i64 i, .int .u64 0, .string x, .int .i64 c] 95) = w2 := ⟨_, rfl⟩
  obtain ⟨hB, f0, f1, f2, z2⟩ := three_alloc W _ _ _ _ hw2
  have cs := str1g true i c x _ w2 f2
  rw [show erW true = 51 from rfl] at cs
  have c0 := fun j => cell_of_row w2 _ j _ _ _ f1
  have zR : ∀ j, w2.frozen? ⟨W.heap.size + 1, j, none⟩ = false := fun j => by simp only [World.frozen?, f1]; simp
  have F2 := hid f1
  clear f0 f1 f2
  go_enter Tryz.func45, Tryz.ntmps45
  go_wp2_with (go_at_call 80; (with_reducible refine cs.mono ?_); rintro e w' ⟨rfl, hw⟩; (have hw' := hw.symm); subst hw'; clear hw)
  refine bodyPost_ret (tv_ret2 rfl _ _ (W.heap.size + 1) _ _ _ _ _ (0, 0) rfl (five_set F2.out _ _ _ _ _)) rfl ?_
  exact ⟨rfl, five_below hB (by omega) _ _ _ _ _⟩
set_option maxRecDepth 100000 in
theorem sub8_out (i c k l : Int) (x : ByteArray) (hx : x.size ≤ 100000) (ho : k < 0 ∨ k > l ∨ l > x.size) (hp vr : Value) (W : World) : Calls Tryz.prog 45 #[hp, .agg #[.int .i64 4, .int .i64 i, .int .u64 0, .string x, .int .i64 c], .int .i64 k, .int .i64 l, vr] W fun e w' => e = .returned (.tuple #[.agg #[.int .i64 0, .int .i64 0, .int .u64 0, .string ⟨#[]⟩, .int .i64 0], .int .i64 31]) ∧ Below W.heap.size W w' := by
  obtain ⟨w2, hw2⟩ : ∃ w2, ((W.alloc (.cells #[.int .i64 4, .int .i64 i, .int .u64 0, .string x, .int .i64 c] 95)).alloc (.cells #[.int .i64 0, .int .i64 0, .int .u64 0, .string ⟨#[]⟩, .int .i64 0] 95)).alloc (.cells #[.int .i64 4, .int .i64 i, .int .u64 0, .string x, .int .i64 c] 95) = w2 := ⟨_, rfl⟩
  obtain ⟨hB, f0, f1, f2, z2⟩ := three_alloc W _ _ _ _ hw2
  have cs := str1g false i c x _ w2 f2
  rw [show erW false = 0 from rfl] at cs
  have c0 := fun j => cell_of_row w2 _ j _ _ _ f1
  have c3 : w2.cell? ⟨W.heap.size, 3, none⟩ = some (.string x) := cell_of_row _ _ 3 _ _ _ f0
  have c6 : IntKind.i64.wrap (x.size : Int) = x.size := by rw [IntKind.wrap_i64]; omega
  have zR : ∀ j, w2.frozen? ⟨W.heap.size + 1, j, none⟩ = false := fun j => by simp only [World.frozen?, f1]; simp
  have F2 := hid f1
  clear f0 f1 f2
  by_cases q1 : k < 0
  · clear ho
    go_enter Tryz.func45, Tryz.ntmps45
    go_wp2_with (go_at_call 80; (with_reducible refine cs.mono ?_); rintro e w' ⟨rfl, hw⟩; (have hw' := hw.symm); subst hw'; clear hw)
    refine bodyPost_ret (tv_ret2 rfl _ _ (W.heap.size + 1) _ _ _ _ _ (0, 0) rfl (five_set F2.out _ _ _ _ _)) rfl ?_
    exact ⟨rfl, five_below hB (by omega) _ _ _ _ _⟩
  · by_cases q2 : k > l
    · clear ho
      go_enter Tryz.func45, Tryz.ntmps45
      go_wp2_with (go_at_call 80; (with_reducible refine cs.mono ?_); rintro e w' ⟨rfl, hw⟩; (have hw' := hw.symm); subst hw'; clear hw)
      refine bodyPost_ret (tv_ret2 rfl _ _ (W.heap.size + 1) _ _ _ _ _ (0, 0) rfl (five_set F2.out _ _ _ _ _)) rfl ?_
      exact ⟨rfl, five_below hB (by omega) _ _ _ _ _⟩
    · have q3 : l > x.size := by omega
      clear ho
      go_enter Tryz.func45, Tryz.ntmps45
      go_wp2_with (go_at_call 80; (with_reducible refine cs.mono ?_); rintro e w' ⟨rfl, hw⟩; (have hw' := hw.symm); subst hw'; clear hw)
      refine bodyPost_ret (tv_ret2 rfl _ _ (W.heap.size + 1) _ _ _ _ _ (0, 0) rfl (five_set F2.out _ _ _ _ _)) rfl ?_
      exact ⟨rfl, five_below hB (by omega) _ _ _ _ _⟩
section
variable {W : World} {rb room : Nat} {lv : Value} {L : List Rc}
set_option maxRecDepth 100000 in
set_option maxHeartbeats 4000000 in
theorem sub8_c (h : Rh W rb lv room L) (hl : L.length < 100000) (hL : ∀ c ∈ L, c.ch ≤ 100000000) (hroom : room ≤ 1000000000000) (vr : Value) (vs : List Tv) (hr : W.ownsRow 0 95 5 vr vs.length (flatT vs)) (hin : ∀ v ∈ vs, v.cell < 0 ∨ ∃ k : Nat, v.cell = k ∧ k < L.length) (hn : vs.length ≤ 2000000) (i c : Int) (x : ByteArray) (k l : Nat) (hkl : k ≤ l) (hlx : l ≤ x.size)
    (hc : c < 0 ∨ ∃ k : Nat, c = k ∧ k < L.length) (hx : x.size ≤ 50000) (t0 : Int) :
    Calls Tryz.prog 45 #[.pointer (some ⟨rb, 0, none⟩), .agg (Tv.cells ⟨false, i, x, c⟩).toArray, .int .i64 k, .int .i64 l, vr] W (SPost W rb lv room L ((vs ++ [Tv.mk false i x c]).map Tv.cell) ⟨false, 0, x.extract k l, t0⟩ (decide ((x.extract k l).size ≤ 5))) := by
  obtain ⟨orr, capr, rfl⟩ := slice_of hr
  have cs4 : ∀ (w4 : World) (v : Value), Below W.heap.size W w4 → w4.ownsRow 0 95 5 v (vs ++ [Tv.mk false i x c]).length (flatT (vs ++ [Tv.mk false i x c])) → Calls Tryz.prog 41 #[.pointer (some ⟨rb, 0, none⟩), .string (x.extract k l), v] w4 (SPost w4 rb lv room L ((vs ++ [Tv.mk false i x c]).map Tv.cell) ⟨false, 0, x.extract k l, t0⟩ (decide ((x.extract k l).size ≤ 5))) := by
    intro w4 v hB hv
    refine string7_c (h.below hB) hl hL hroom v _ hv ?_ (by simp; omega) (x.extract k l) (by rw [ByteArray.size_extract]; omega) t0
    intro u hu
    rcases List.mem_append.1 hu with hu | hu
    · exact hin u hu
    · simp at hu
      subst hu
      exact hc
  generalize hsm : decide ((x.extract k l).size ≤ 5) = sm at *
  generalize hks : (vs ++ [Tv.mk false i x c]).map Tv.cell = ks at *
  simp only [Tv.cells]
  change Calls _ _ #[_, .agg #[.int .i64 4, .int .i64 i, .int .u64 0, .string x, .int .i64 c], _, _, _] _ _
  obtain ⟨w2, hw2⟩ : ∃ w2, ((W.alloc (.cells #[.int .i64 4, .int .i64 i, .int .u64 0, .string x, .int .i64 c] 95)).alloc (.cells #[.int .i64 0, .int .i64 0, .int .u64 0, .string ⟨#[]⟩, .int .i64 0] 95)).alloc (.cells #[.int .i64 4, .int .i64 i, .int .u64 0, .string x, .int .i64 c] 95) = w2 := ⟨_, rfl⟩
  obtain ⟨hB, f0, f2, f3, z2⟩ := three_alloc W _ _ _ _ hw2
  have cs := str1g false i c x _ w2 f3
  rw [show erW false = 0 from rfl] at cs
  have e0 : ¬ (k : Int) < 0 := by omega
  have e1 : ¬ (k : Int) > l := by omega
  have e2 : ¬ (l : Int) > x.size := by omega
  have e3 : (0 : Int) ≤ k := by omega
  have e4 : (k : Int) ≤ l := by omega
  have e5 : (l : Int) ≤ x.size := by omega
  have e6 : IntKind.i64.wrap (x.size : Int) = x.size := by rw [IntKind.wrap_i64]; omega
  have HR := hid (owns_on hr (fun k e => hB.block k (hr.lt k e).2))
  have HW := hid (And.intro h hB)
  have HF := hid (And.intro f0 f2)
  have c3 : w2.cell? ⟨W.heap.size, 3, none⟩ = some (.string x) := cell_of_row _ _ 3 _ _ _ f0
  have e7 : ¬ l < k := by omega
  have e8 : ¬ x.size < l := by omega
  have Z2 := hid z2
  have NN := hid hn
  clear h hr hin hc hL hB f0 f2 f3 z2 hn
  go_enter Tryz.func45, Tryz.ntmps45
  go_upto_region 6 with (go_at_call 80; (with_reducible refine cs.mono ?_); rintro e w' ⟨rfl, hw⟩; (have hw' := hw.symm); subst hw'; clear hw)
  clear cs hw2 c3
  generalize hb0 : W.heap.size = b0 at *
  have HS0 := hid (show w2.drew.heap[b0]? = some (.cells #[.int .i64 4, .int .i64 i, .int .u64 0, .string x, .int .i64 c] 95 (0, 0)) from HF.out.1)
  refine wp_region_noPanic ?_
  refine plain_anyL (z := 16) (S := fun w' => w'.heap[b0]? = some (.cells #[.int .i64 4, .int .i64 i, .int .u64 0, .string x, .int .i64 c] 95 (0, 0))) (by kernel_rfl) ?_
  have hS := HS0.out
  (refine anyL_take (i := 0) (v := ?_) rfl (by kernel_rfl) (by kernel_rfl) (by kernel_rfl) (by kernel_rfl) (fun _ _ _ h => h) (Or.inl ⟨by rfl, ?_⟩) hS ?_); rotate_left; (focus (intro w' hSw; (have e1 := fun j => cell_of_row w' b0 j _ _ _ hSw); go_simp; (try with_reducible rfl))); (try simp only [Act.put, List.getElem_toArray, List.getElem_cons_zero, List.getElem_cons_succ, List.setIfInBounds_toArray, List.set_cons_zero, List.set_cons_succ])
  (refine anyL_take (i := 1) (v := ?_) rfl (by kernel_rfl) (by kernel_rfl) (by kernel_rfl) (by kernel_rfl) (fun _ _ _ h => h) (Or.inl ⟨by rfl, ?_⟩) hS ?_); rotate_left; (focus (intro w' hSw; (have e1 := fun j => cell_of_row w' b0 j _ _ _ hSw); go_simp; (try with_reducible rfl))); (try simp only [Act.put, List.getElem_toArray, List.getElem_cons_zero, List.getElem_cons_succ, List.setIfInBounds_toArray, List.set_cons_zero, List.set_cons_succ])
  (refine anyL_take (i := 2) (v := ?_) rfl (by kernel_rfl) (by kernel_rfl) (by kernel_rfl) (by kernel_rfl) (fun _ _ _ h => h) (Or.inl ⟨by rfl, ?_⟩) hS ?_); rotate_left; (focus (intro w' hSw; (have e1 := fun j => cell_of_row w' b0 j _ _ _ hSw); go_simp; (try with_reducible rfl))); (try simp only [Act.put, List.getElem_toArray, List.getElem_cons_zero, List.getElem_cons_succ, List.setIfInBounds_toArray, List.set_cons_zero, List.set_cons_succ])
  (refine anyL_take (i := 3) (v := ?_) rfl (by kernel_rfl) (by kernel_rfl) (by kernel_rfl) (by kernel_rfl) (fun _ _ _ h => h) (Or.inl ⟨by rfl, ?_⟩) hS ?_); rotate_left; (focus (intro w' hSw; (have e1 := fun j => cell_of_row w' b0 j _ _ _ hSw); go_simp; (try with_reducible rfl))); (try simp only [Act.put, List.getElem_toArray, List.getElem_cons_zero, List.getElem_cons_succ, List.setIfInBounds_toArray, List.set_cons_zero, List.set_cons_succ])
  (refine anyL_take (i := 4) (v := ?_) rfl (by kernel_rfl) (by kernel_rfl) (by kernel_rfl) (by kernel_rfl) (fun _ _ _ h => h) (Or.inl ⟨by rfl, ?_⟩) hS ?_); rotate_left; (focus (intro w' hSw; (have e1 := fun j => cell_of_row w' b0 j _ _ _ hSw); go_simp; (try with_reducible rfl))); (try simp only [Act.put, List.getElem_toArray, List.getElem_cons_zero, List.getElem_cons_succ, List.setIfInBounds_toArray, List.set_cons_zero, List.set_cons_succ])
  (refine anyL_take (i := 5) (v := ?_) rfl (by kernel_rfl) (by kernel_rfl) (by kernel_rfl) (by kernel_rfl) (fun _ _ _ h => h) (Or.inl ⟨by rfl, ?_⟩) hS ?_); rotate_left; (focus (intro w' hSw; (have e1 := fun j => cell_of_row w' b0 j _ _ _ hSw); go_simp; (try with_reducible rfl))); (try simp only [Act.put, List.getElem_toArray, List.getElem_cons_zero, List.getElem_cons_succ, List.setIfInBounds_toArray, List.set_cons_zero, List.set_cons_succ])
  (refine anyL_take (i := 7) (v := ?_) rfl (by kernel_rfl) (by kernel_rfl) (by kernel_rfl) (by kernel_rfl) (fun _ _ _ h => h) (Or.inl ⟨by rfl, ?_⟩) hS ?_); rotate_left; (focus (intro w' hSw; (have e1 := fun j => cell_of_row w' b0 j _ _ _ hSw); go_simp; (try with_reducible rfl))); (try simp only [Act.put, List.getElem_toArray, List.getElem_cons_zero, List.getElem_cons_succ, List.setIfInBounds_toArray, List.set_cons_zero, List.set_cons_succ])
  (refine anyL_take (i := 9) (v := ?_) rfl (by kernel_rfl) (by kernel_rfl) (by kernel_rfl) (by kernel_rfl) (fun _ _ _ h => h) (Or.inl ⟨by rfl, ?_⟩) hS ?_); rotate_left; (focus (intro w' hSw; (have e1 := fun j => cell_of_row w' b0 j _ _ _ hSw); go_simp; (try with_reducible rfl))); (try simp only [Act.put, List.getElem_toArray, List.getElem_cons_zero, List.getElem_cons_succ, List.setIfInBounds_toArray, List.set_cons_zero, List.set_cons_succ])
  clear hS
  have SS := hid (show ∀ w, Below w2.heap.size w2 w → w.heap[b0]? = some (.cells #[.int .i64 4, .int .i64 i, .int .u64 0, .string x, .int .i64 c] 95 (0, 0)) from fun w hw => (hw.block _ (by have := Z2.out; omega)).trans HF.out.1)
  refine anyL_cut (fun a0 a' w' => ∃ s25 v27 s30 o cap, a' = (((a0.put (some 41) s25).put (some 43) v27).put (some 45) s30).put (some 46) (.slice o (vs.length + 1) cap) ∧ Below w2.heap.size w2 w' ∧ w'.ownsRow 0 95 5 (.slice o (vs.length + 1) cap) (vs ++ [Tv.mk false i x c]).length (flatT (vs ++ [Tv.mk false i x c]))) 5 #[true, true, true, true, true, true, true, true, true, true, true, true, false, false, false, false, false] ?tail (fun TAIL => ?main)
  case tail =>
    rintro a' w4 ⟨s25, v27, s30, o, cap, rfl, hB4, hown⟩
    (try simp only [Act.put, List.getElem_toArray, List.getElem_cons_zero, List.getElem_cons_succ, List.setIfInBounds_toArray, List.set_cons_zero, List.set_cons_succ])
    have hBW := HW.out.2.trans (hB4.mono (by rw [← hb0]; exact HW.out.2.size))
    have cc := cs4 w4 _ hBW hown
    refine anyL_one (i := 12) (by kernel_rfl) rfl rfl (fun K hK => ?_)
    go_simp
    refine ⟨trivial, (callsIn_wide.2 cc).mono ?_⟩
    intro e w5 hP
    obtain ⟨x0, x1, x3, x4, yy, rfl⟩ := hP.two
    have hz4 : b0 + 3 ≤ w4.heap.size := by have := hB4.size; have := Z2.out; omega
    have hU5 : ∀ k, b0 ≤ k → k < w4.heap.size → w5.heap[k]? = w4.heap[k]? := fun k h1 h2 => hP.choose_spec.1.block k h2 (fun e => by have := HW.out.1.lt k e; omega)
    have hS : w5.heap[b0]? = some (.cells #[.int .i64 4, .int .i64 i, .int .u64 0, .string x, .int .i64 c] 95 (0, 0)) := (hU5 b0 (by omega) (by omega)).trans (SS.out w4 hB4)
    have g2 : w5.heap[b0 + 1]? = some (.cells #[.int .i64 0, .int .i64 0, .int .u64 0, .string ⟨#[]⟩, .int .i64 0] 95 (0, 0)) := ((hU5 (b0 + 1) (by omega) (by omega)).trans (hB4.block _ (by have := Z2.out; omega))).trans HF.out.2
    refine hK _ _ (.inr hS) ?_
    clear hK K cc
    (try simp only [Act.put, List.getElem_toArray, List.getElem_cons_zero, List.getElem_cons_succ, List.setIfInBounds_toArray, List.set_cons_zero, List.set_cons_succ])
    (refine anyL_take (i := 13) (v := ?_) rfl (by kernel_rfl) (by kernel_rfl) (by kernel_rfl) (by kernel_rfl) (fun _ _ _ h => h) (Or.inl ⟨by rfl, ?_⟩) hS ?_); rotate_left; (focus (intro w' hSw; (have e1 := fun j => cell_of_row w' b0 j _ _ _ hSw); go_simp; (try with_reducible rfl))); (try simp only [Act.put, List.getElem_toArray, List.getElem_cons_zero, List.getElem_cons_succ, List.setIfInBounds_toArray, List.set_cons_zero, List.set_cons_succ])
    (refine anyL_take (i := 14) (v := ?_) rfl (by kernel_rfl) (by kernel_rfl) (by kernel_rfl) (by kernel_rfl) (fun _ _ _ h => h) (Or.inl ⟨by rfl, ?_⟩) hS ?_); rotate_left; (focus (intro w' hSw; (have e1 := fun j => cell_of_row w' b0 j _ _ _ hSw); go_simp; (try with_reducible rfl))); (try simp only [Act.put, List.getElem_toArray, List.getElem_cons_zero, List.getElem_cons_succ, List.setIfInBounds_toArray, List.set_cons_zero, List.set_cons_succ])
    refine anyL_one (i := 15) (by kernel_rfl) rfl rfl (fun K hK => ?_)
    have d0 := fun j => cell_of_row w5 _ j _ _ _ g2
    have zR : ∀ j, w5.frozen? ⟨b0 + 1, j, none⟩ = false := fun j => by simp only [World.frozen?, g2]; simp
    go_simp
    refine hK _ _ (.inr ((five_far (gb := b0 + 1) (k := b0) (by omega) _ _ _ _ _).trans hS)) ?_
    clear hK K d0 zR
    (try simp only [Act.put, List.getElem_toArray, List.getElem_cons_zero, List.getElem_cons_succ, List.setIfInBounds_toArray, List.set_cons_zero, List.set_cons_succ])
    refine anyL_one (i := 16) (by kernel_rfl) rfl rfl (fun K hK => ?_)
    go_simp
    refine hK _ _ (.inl rfl) ?_
    clear hK K
    (try simp only [Act.put, List.getElem_toArray, List.getElem_cons_zero, List.getElem_cons_succ, List.setIfInBounds_toArray, List.set_cons_zero, List.set_cons_succ])
    refine anyL_done (by kernel_rfl) ?_ _
    refine NoPanic.normal ?_
    have F5 := hid (five_set g2 (.int .i64 x0) (.int .i64 x1) (.int .u64 0) (.string x3) (.int .i64 x4))
    have HP := hid hP
    clear hP g2 hS hU5
    generalize hw6 : ((((w5.setCell ⟨b0 + 1, 0, none⟩ (.int .i64 x0)).setCell ⟨b0 + 1, 1, none⟩ (.int .i64 x1)).setCell ⟨b0 + 1, 2, none⟩ (.int .u64 0)).setCell ⟨b0 + 1, 3, none⟩ (.string x3)).setCell ⟨b0 + 1, 4, none⟩ (.int .i64 x4) = w6 at *
    go_wp2
    refine bodyPost_ret (tv_ret2 rfl _ _ (b0 + 1) _ _ _ _ _ (0, 0) rfl F5.out) rfl ?_
    refine HP.out.wrap HW.out.1 (by rw [hb0]; exact hBW) (gb := b0 + 1) (by omega) (by omega) ?_
    rw [← hw6]
    have us : ∀ {b : World}, Upd (fun k => k = b0 + 1) w5 b → ∀ (o : Nat) (v : Value), Upd (fun k => k = b0 + 1) w5 (b.setCell ⟨b0 + 1, o, none⟩ v) := fun h o v => h.setCell (p := ⟨b0 + 1, o, none⟩) (.inl rfl) v
    exact us (us (us (us (us (Upd.refl _ w5) _ _) _ _) _ _) _ _) _ _
  case main =>
    have hB0 : Below w2.heap.size w2 w2.drew := (Below.refl _ w2).drew
    have OWN := hid (show ∀ w, Below w2.heap.size w2 w → w.ownsRow 0 95 5 (.slice orr vs.length capr) vs.length (flatT vs) from fun w hw => owns_on HR.out (fun k e => hw.block k (HR.out.lt k e).2))
    have N1 := NN.out
    refine anyL_two (i := 6) (j := 10) (by kernel_rfl) rfl rfl rfl rfl (fun K hK => ?_) (fun K hK => ?_)
    · -- the empty row first
      go_simp
      have hBa : Below w2.heap.size w2 (w2.alloc (.cells #[] 95)).drew := ((Below.refl _ w2).alloc (Nat.le_refl _) _).drew
      have ga : (w2.alloc (.cells #[] 95)).drew.heap[w2.heap.size]? = some (.cells #[] 95 (0, 0)) := World.alloc_heap_new w2 (.cells #[] 95)
      have za : (w2.alloc (.cells #[] 95)).drew.heap.size = w2.heap.size + 1 := World.size_alloc w2 _
      refine hK _ _ (.inr (SS.out _ hBa)) ?_
      clear hK K
      (try simp only [Act.put, List.getElem_toArray, List.getElem_cons_zero, List.getElem_cons_succ, List.setIfInBounds_toArray, List.set_cons_zero, List.set_cons_succ])
      generalize (w2.alloc (.cells #[] 95)).drew = wa at *
      have ZA := hid za
      clear za
      have oa := lit_own wa w2.heap.size [] (by simp) ga
      refine anyL_two (i := 8) (j := 10) (by kernel_rfl) rfl rfl rfl rfl (fun K hK => ?_) (fun K hK => ?_)
      · obtain ⟨v1, wb, hrun, ho1, hg1, hk1⟩ := app_vals wa 57 _ [] oa (.slice orr vs.length capr) vs (OWN.out wa hBa) (by simp; omega)
        rw [List.nil_append] at ho1
        refine opIn_plain (fun c h => by cases h) ?_
        refine Lib.wp_append_run _ (.tmp 41) (.tmp 42) 57 57 rfl _ _ rfl rfl _ _ hrun ?_
        have hBb : Below w2.heap.size w2 wb := hBa.grown hg1 hBa.size (fun k e => by have : w2.heap.size = k := by simpa [Value.ownBlock] using e
                                                                                     omega)
        refine hK _ _ (.inr (SS.out _ hBb)) ?_
        clear hK K hrun
        (try simp only [Act.put, List.getElem_toArray, List.getElem_cons_zero, List.getElem_cons_succ, List.setIfInBounds_toArray, List.set_cons_zero, List.set_cons_succ])
        have ob := fun w (hw : Below wb.heap.size wb w) => (owns_on ho1 (fun k e => hw.block k (ho1.lt k e).2) : w.ownsRow 0 95 5 v1 vs.length (flatT vs))
        have hvb : ∀ k, v1.ownBlock = some k → w2.heap.size ≤ k := fun k e => by
          rcases hk1 k e with e | e
          · have : w2.heap.size = k := by simpa [Value.ownBlock] using e
            omega
          · have := ZA.out
            omega
        refine anyL_one (i := 10) (by kernel_rfl) rfl rfl (fun K hK => ?_)
        go_simp
        have hBc0 : Below wb.heap.size wb (wb.alloc (.cells #[.int .i64 4, .int .i64 i, .int .u64 0, .string x, .int .i64 c] 95)) := (Below.refl _ wb).alloc (Nat.le_refl _) _
        have hBc : Below w2.heap.size w2 (wb.alloc (.cells #[.int .i64 4, .int .i64 i, .int .u64 0, .string x, .int .i64 c] 95)) := hBb.trans (hBc0.mono hBb.size)
        have gc : (wb.alloc (.cells #[.int .i64 4, .int .i64 i, .int .u64 0, .string x, .int .i64 c] 95)).heap[wb.heap.size]? = some (.cells #[.int .i64 4, .int .i64 i, .int .u64 0, .string x, .int .i64 c] 95 (0, 0)) := World.alloc_heap_new wb _
        have oc := ob _ hBc0
        refine hK _ _ (.inr (SS.out _ hBc)) ?_
        clear hK K
        (try simp only [Act.put, List.getElem_toArray, List.getElem_cons_zero, List.getElem_cons_succ, List.setIfInBounds_toArray, List.set_cons_zero, List.set_cons_succ])
        generalize wb.alloc (.cells #[.int .i64 4, .int .i64 i, .int .u64 0, .string x, .int .i64 c] 95) = wc at *
        obtain ⟨v2, wd, hrun2, ho2, hg2, hk2⟩ := app_vals wc 57 v1 vs oc _ [Tv.mk false i x c] (lit_own wc wb.heap.size [Tv.mk false i x c] (by simp) gc) (by simp; omega)
        obtain ⟨o2, cap2, hv2⟩ := slice_of ho2
        rw [show (vs ++ [Tv.mk false i x c]).length = vs.length + 1 by simp] at hv2
        subst hv2
        have hBd : Below w2.heap.size w2 wd := hBc.grown hg2 hBc.size hvb
        refine anyL_one (i := 11) (by kernel_rfl) rfl rfl (fun K hK => ?_)
        refine opIn_plain (fun c h => by cases h) ?_
        refine Lib.wp_append_run _ (.tmp 43) (.tmp 45) 57 57 rfl _ _ rfl rfl _ _ hrun2 ?_
        refine hK _ _ (.inr (SS.out _ hBd)) ?_
        clear hK K hrun2
        (try simp only [Act.put, List.getElem_toArray, List.getElem_cons_zero, List.getElem_cons_succ, List.setIfInBounds_toArray, List.set_cons_zero, List.set_cons_succ])
        refine anyL_same (by kernel_rfl) ?_ (TAIL _ _ ⟨.slice (some ⟨w2.heap.size, 0, none⟩) 0 0, v1, .slice (some ⟨wb.heap.size, 0, none⟩) 1 1, o2, cap2, rfl, hBd, ho2⟩)
        (try simp only [Act.put, List.getElem_toArray, List.getElem_cons_zero, List.getElem_cons_succ, List.setIfInBounds_toArray, List.set_cons_zero, List.set_cons_succ])
      · go_simp
        have za := ZA.out
        have hBc0 : Below wa.heap.size wa (wa.alloc (.cells #[.int .i64 4, .int .i64 i, .int .u64 0, .string x, .int .i64 c] 95)) := (Below.refl _ wa).alloc (Nat.le_refl _) _
        have hBc : Below w2.heap.size w2 (wa.alloc (.cells #[.int .i64 4, .int .i64 i, .int .u64 0, .string x, .int .i64 c] 95)) := hBa.trans (hBc0.mono hBa.size)
        have G1 : (wa.alloc (.cells #[.int .i64 4, .int .i64 i, .int .u64 0, .string x, .int .i64 c] 95)).heap[wa.heap.size]? = some (.cells #[.int .i64 4, .int .i64 i, .int .u64 0, .string x, .int .i64 c] 95 (0, 0)) := World.alloc_heap_new wa _
        have G0 : (wa.alloc (.cells #[.int .i64 4, .int .i64 i, .int .u64 0, .string x, .int .i64 c] 95)).heap[w2.heap.size]? = some (.cells #[] 95 (0, 0)) := (hBc0.block _ (by omega)).trans ga
        refine hK _ _ (.inr (SS.out _ hBc)) ?_
        clear hK K
        (try simp only [Act.put, List.getElem_toArray, List.getElem_cons_zero, List.getElem_cons_succ, List.setIfInBounds_toArray, List.set_cons_zero, List.set_cons_succ])
        generalize wa.alloc (.cells #[.int .i64 4, .int .i64 i, .int .u64 0, .string x, .int .i64 c] 95) = wc at *
        have o0 := lit_own wc w2.heap.size [] (by simp) G0
        obtain ⟨v1, wd, hrun, ho1, hg1, hk1⟩ := app_vals wc 57 _ [] o0 (.slice orr vs.length capr) vs (OWN.out wc hBc) (by simp; omega)
        rw [List.nil_append] at ho1
        have hgk : ∀ k, (Value.slice (some ⟨w2.heap.size, 0, none⟩) 0 0).ownBlock = some k → w2.heap.size = k := fun k e => by simpa [Value.ownBlock] using e
        have hBd : Below w2.heap.size w2 wd := hBc.grown hg1 hBc.size (fun k e => by have := hgk k e; omega)
        have gd : wd.heap[wa.heap.size]? = some (.cells #[.int .i64 4, .int .i64 i, .int .u64 0, .string x, .int .i64 c] 95 (0, 0)) := (hg1.block _ (Array.getElem?_eq_some_iff.1 G1).1 (fun e => by have := hgk _ e.symm; omega)).trans G1
        refine anyL_one (i := 8) (by kernel_rfl) rfl rfl (fun K hK => ?_)
        refine opIn_plain (fun c h => by cases h) ?_
        refine Lib.wp_append_run _ (.tmp 41) (.tmp 42) 57 57 rfl _ _ rfl rfl _ _ hrun ?_
        refine hK _ _ (.inr (SS.out _ hBd)) ?_
        clear hK K hrun
        (try simp only [Act.put, List.getElem_toArray, List.getElem_cons_zero, List.getElem_cons_succ, List.setIfInBounds_toArray, List.set_cons_zero, List.set_cons_succ])
        obtain ⟨v2, we, hrun2, ho2, hg2, hk2⟩ := app_vals wd 57 v1 vs ho1 _ [Tv.mk false i x c] (lit_own wd wa.heap.size [Tv.mk false i x c] (by simp) gd) (by simp; omega)
        obtain ⟨o2, cap2, hv2⟩ := slice_of ho2
        rw [show (vs ++ [Tv.mk false i x c]).length = vs.length + 1 by simp] at hv2
        subst hv2
        have hBe : Below w2.heap.size w2 we := hBd.grown hg2 hBd.size (fun k e => by
          rcases hk1 k e with e | e
          · have := hgk k e
            omega
          · have := hBc.size
            omega)
        refine anyL_one (i := 11) (by kernel_rfl) rfl rfl (fun K hK => ?_)
        refine opIn_plain (fun c h => by cases h) ?_
        refine Lib.wp_append_run _ (.tmp 43) (.tmp 45) 57 57 rfl _ _ rfl rfl _ _ hrun2 ?_
        refine hK _ _ (.inr (SS.out _ hBe)) ?_
        clear hK K hrun2
        (try simp only [Act.put, List.getElem_toArray, List.getElem_cons_zero, List.getElem_cons_succ, List.setIfInBounds_toArray, List.set_cons_zero, List.set_cons_succ])
        refine anyL_same (by kernel_rfl) ?_ (TAIL _ _ ⟨.slice (some ⟨w2.heap.size, 0, none⟩) 0 0, v1, .slice (some ⟨wa.heap.size, 0, none⟩) 1 1, o2, cap2, rfl, hBe, ho2⟩)
        (try simp only [Act.put, List.getElem_toArray, List.getElem_cons_zero, List.getElem_cons_succ, List.setIfInBounds_toArray, List.set_cons_zero, List.set_cons_succ])
    · go_simp
      have hBa : Below w2.heap.size w2 (w2.alloc (.cells #[.int .i64 4, .int .i64 i, .int .u64 0, .string x, .int .i64 c] 95)).drew := ((Below.refl _ w2).alloc (Nat.le_refl _) _).drew
      have ga : (w2.alloc (.cells #[.int .i64 4, .int .i64 i, .int .u64 0, .string x, .int .i64 c] 95)).drew.heap[w2.heap.size]? = some (.cells #[.int .i64 4, .int .i64 i, .int .u64 0, .string x, .int .i64 c] 95 (0, 0)) := World.alloc_heap_new w2 (.cells #[.int .i64 4, .int .i64 i, .int .u64 0, .string x, .int .i64 c] 95)
      have za : (w2.alloc (.cells #[.int .i64 4, .int .i64 i, .int .u64 0, .string x, .int .i64 c] 95)).drew.heap.size = w2.heap.size + 1 := World.size_alloc w2 _
      refine hK _ _ (.inr (SS.out _ hBa)) ?_
      clear hK K
      (try simp only [Act.put, List.getElem_toArray, List.getElem_cons_zero, List.getElem_cons_succ, List.setIfInBounds_toArray, List.set_cons_zero, List.set_cons_succ])
      generalize (w2.alloc (.cells #[.int .i64 4, .int .i64 i, .int .u64 0, .string x, .int .i64 c] 95)).drew = wa at *
      have ZA := hid za
      clear za
      refine anyL_one (i := 6) (by kernel_rfl) rfl rfl (fun K hK => ?_)
      go_simp
      have za := ZA.out
      have hBc0 : Below wa.heap.size wa (wa.alloc (.cells #[] 95)) := (Below.refl _ wa).alloc (Nat.le_refl _) _
      have hBc : Below w2.heap.size w2 (wa.alloc (.cells #[] 95)) := hBa.trans (hBc0.mono hBa.size)
      have G0 : (wa.alloc (.cells #[] 95)).heap[wa.heap.size]? = some (.cells #[] 95 (0, 0)) := World.alloc_heap_new wa _
      have G1 : (wa.alloc (.cells #[] 95)).heap[w2.heap.size]? = some (.cells #[.int .i64 4, .int .i64 i, .int .u64 0, .string x, .int .i64 c] 95 (0, 0)) := (hBc0.block _ (by omega)).trans ga
      refine hK _ _ (.inr (SS.out _ hBc)) ?_
      clear hK K
      (try simp only [Act.put, List.getElem_toArray, List.getElem_cons_zero, List.getElem_cons_succ, List.setIfInBounds_toArray, List.set_cons_zero, List.set_cons_succ])
      generalize wa.alloc (.cells #[] 95) = wc at *
      have o0 := lit_own wc wa.heap.size [] (by simp) G0
      obtain ⟨v1, wd, hrun, ho1, hg1, hk1⟩ := app_vals wc 57 _ [] o0 (.slice orr vs.length capr) vs (OWN.out wc hBc) (by simp; omega)
      rw [List.nil_append] at ho1
      have hgk : ∀ k, (Value.slice (some ⟨wa.heap.size, 0, none⟩) 0 0).ownBlock = some k → wa.heap.size = k := fun k e => by simpa [Value.ownBlock] using e
      have hBd : Below w2.heap.size w2 wd := hBc.grown hg1 hBc.size (fun k e => by have := hgk k e; omega)
      have gd : wd.heap[w2.heap.size]? = some (.cells #[.int .i64 4, .int .i64 i, .int .u64 0, .string x, .int .i64 c] 95 (0, 0)) := (hg1.block _ (Array.getElem?_eq_some_iff.1 G1).1 (fun e => by have := hgk _ e.symm; omega)).trans G1
      refine anyL_one (i := 8) (by kernel_rfl) rfl rfl (fun K hK => ?_)
      refine opIn_plain (fun c h => by cases h) ?_
      refine Lib.wp_append_run _ (.tmp 41) (.tmp 42) 57 57 rfl _ _ rfl rfl _ _ hrun ?_
      refine hK _ _ (.inr (SS.out _ hBd)) ?_
      clear hK K hrun
      (try simp only [Act.put, List.getElem_toArray, List.getElem_cons_zero, List.getElem_cons_succ, List.setIfInBounds_toArray, List.set_cons_zero, List.set_cons_succ])
      obtain ⟨v2, we, hrun2, ho2, hg2, hk2⟩ := app_vals wd 57 v1 vs ho1 _ [Tv.mk false i x c] (lit_own wd w2.heap.size [Tv.mk false i x c] (by simp) gd) (by simp; omega)
      obtain ⟨o2, cap2, hv2⟩ := slice_of ho2
      rw [show (vs ++ [Tv.mk false i x c]).length = vs.length + 1 by simp] at hv2
      subst hv2
      have hBe : Below w2.heap.size w2 we := hBd.grown hg2 hBd.size (fun k e => by
        rcases hk1 k e with e | e
        · have := hgk k e
          omega
        · have := hBc.size
          omega)
      refine anyL_one (i := 11) (by kernel_rfl) rfl rfl (fun K hK => ?_)
      refine opIn_plain (fun c h => by cases h) ?_
      refine Lib.wp_append_run _ (.tmp 43) (.tmp 45) 57 57 rfl _ _ rfl rfl _ _ hrun2 ?_
      refine hK _ _ (.inr (SS.out _ hBe)) ?_
      clear hK K hrun2
      (try simp only [Act.put, List.getElem_toArray, List.getElem_cons_zero, List.getElem_cons_succ, List.setIfInBounds_toArray, List.set_cons_zero, List.set_cons_succ])
      refine anyL_same (by kernel_rfl) ?_ (TAIL _ _ ⟨.slice (some ⟨wa.heap.size, 0, none⟩) 0 0, v1, .slice (some ⟨w2.heap.size, 0, none⟩) 1 1, o2, cap2, rfl, hBe, ho2⟩)
      (try simp only [Act.put, List.getElem_toArray, List.getElem_cons_zero, List.getElem_cons_succ, List.setIfInBounds_toArray, List.set_cons_zero, List.set_cons_succ])
end
end Go.Proofs.YtndkfjoaiinjoaaGreat.W
/- TextPlays: the pool; alive. -/
namespace Go.Proofs.YtndkfjoaiinjoaaGreat.W
open Go.ChangeShapes Go.WideShapes Go.RowKit Go.Shelf
set_option linter.unusedVariables false
set_option linter.unusedSimpArgs false
/-- the pool beside the reference's heap: what lies where -/
structure Tpl (W : World) (pb hb rb : Nat) (lv wv vv : Value) (room : Nat) (L : List Rc) (ws : List Nat) (vs : List Tv) : Prop where
  blk : W.heap[pb]? = some (.cells #[.pointer (some ⟨hb, 0, none⟩), .pointer (some ⟨rb, 0, none⟩), wv, vv] 59 (0, 0))
  ref : Rh W rb lv room L
  wrow : W.ownsRow 0 26 1 wv ws.length (ws.map (fun n => Value.int .u64 (n : Nat)))
  vrow : W.ownsRow 0 95 5 vv vs.length (flatT vs)
  len : ws.length = vs.length
  cel : ∀ v ∈ vs, v.cell < 0 ∨ ∃ k : Nat, v.cell = k ∧ k < L.length
  few : vs.length ≤ 500
/-- is it sure that a value is there -/
def aliveB (L : List Rc) (vs : List Tv) (i : Int) : Bool := match vs[i.toNat]? with
  | some v => decide (0 ≤ i) && (decide (v.cell < 0) || ((L[v.cell.toNat]?).getD .gone).held)
  | none => false
section
variable {W W' : World} {pb hb rb : Nat} {lv wv vv : Value} {room : Nat} {L : List Rc} {ws : List Nat} {vs : List Tv}
theorem Tpl.on (h : Tpl W pb hb rb lv wv vv room L ws vs) (hk : ∀ k, (k = pb ∨ k = rb ∨ lv.ownBlock = some k ∨ wv.ownBlock = some k ∨ vv.ownBlock = some k) → W'.heap[k]? = W.heap[k]?) : Tpl W' pb hb rb lv wv vv room L ws vs :=
  ⟨(hk pb (.inl rfl)).trans h.blk, h.ref.on (fun k e => hk k (e.elim (fun e => .inr (.inl e)) (fun e => .inr (.inr (.inl e))))), owns_on h.wrow (fun k e => hk k (.inr (.inr (.inr (.inl e))))), owns_on h.vrow (fun k e => hk k (.inr (.inr (.inr (.inr e))))), h.len, h.cel, h.few⟩
theorem Tpl.lt (h : Tpl W pb hb rb lv wv vv room L ws vs) (k : Nat) (hk : k = pb ∨ k = rb ∨ lv.ownBlock = some k ∨ wv.ownBlock = some k ∨ vv.ownBlock = some k) : k < W.heap.size := by
  rcases hk with rfl | e | e | e | e
  · exact (Array.getElem?_eq_some_iff.1 h.blk).1
  · exact h.ref.lt k (.inl e)
  · exact h.ref.lt k (.inr e)
  · exact (h.wrow.lt k e).2
  · exact (h.vrow.lt k e).2
theorem Tpl.below (h : Tpl W pb hb rb lv wv vv room L ws vs) (hB : Below W.heap.size W W') : Tpl W' pb hb rb lv wv vv room L ws vs := h.on (fun k hk => hB.block k (h.lt k hk))
set_option maxRecDepth 100000 in
set_option maxHeartbeats 2000000 in
theorem alive_c (h : Tpl W pb hb rb lv wv vv room L ws vs) (i : Int) : Calls Tryz.prog 19 #[.pointer (some ⟨pb, 0, none⟩), .int .i64 i] W fun e w' => e = .returned (.bool (aliveB L vs i)) ∧ Below W.heap.size W w' := by
  obtain ⟨ov, capv, rfl⟩ := slice_of h.vrow
  have p1 : W.cell? ⟨pb, 1, none⟩ = some (.pointer (some ⟨rb, 0, none⟩)) := cell_of_row _ _ 1 _ _ _ h.blk
  have p3 : W.cell? ⟨pb, 3, none⟩ = some (.slice ov vs.length capv) := cell_of_row _ _ 3 _ _ _ h.blk
  by_cases q1 : i ≥ 0
  · obtain ⟨n, rfl⟩ : ∃ n : Nat, i = n := ⟨i.toNat, by omega⟩
    have q1' : decide ((n : Int) ≥ 0) = true := decide_eq_true q1
    by_cases q2 : n < vs.length
    · obtain ⟨v, hv⟩ : ∃ v, vs[n]? = some v := ⟨_, List.getElem?_eq_getElem q2⟩
      have hR : aliveB L vs (n : Int) = (decide (v.cell < 0) || ((L[v.cell.toNat]?).getD .gone).held) := by
        unfold aliveB
        rw [Int.toNat_natCast, hv]
        simp
      rw [hR]
      obtain ⟨g, cap', hve, _⟩ := own_slice h.vrow (by omega)
      injection hve with hv1 hv2 hv3
      subst hv1
      clear hv2 hv3
      have c4 : W.cell? ⟨g, n * 5 + 4, none⟩ = some (.int .i64 v.cell) := by
        rw [(own_cell9 h.vrow (n * 5 + 4) (by omega)).1, flatT_get vs n 4 v hv (by omega)]
        rfl
      have hcel := h.cel v (List.mem_of_getElem? hv)
      have o1 : (n : Int) < vs.length := by omega
      have o2 : decide ((n : Int) < vs.length) = true := decide_eq_true o1
      by_cases q3 : v.cell < 0
      · have q3' : decide (v.cell < 0) = true := decide_eq_true q3
        rw [q3']
        generalize v.cell = cl at *
        clear h hR hcel hv
        go_enter Tryz.func19, Tryz.ntmps19
        go_upto_region 1 with fail
        have inst : Nonempty (TBW W) := ⟨⟨_, Below.refl _ _⟩⟩
        have e1 := TBW.cell p1
        have e3 := TBW.cell p3
        have e4 := TBW.cell c4
        clear p1 p3 c4
        refine tbw_region (by kernel_rfl) (by kernel_rfl) ?_
        repeat (go_big_quiet_step (fail))
        refine wpQuiet_nil ?_
        intro _ hw'
        obtain ⟨pw, hw''⟩ := hw'
        subst hw''
        go_wp2
        go_ret
        exact ⟨rfl, pw.h⟩
      · obtain ⟨k, hk, hkl⟩ : ∃ k : Nat, v.cell = k ∧ k < L.length := by
          rcases hcel with c | c
          · exact absurd c q3
          · exact c
        have q3' : decide (v.cell < 0) = false := decide_eq_false q3
        rw [q3']
        rw [hk] at c4 q3 q3' ⊢
        rw [Int.toNat_natCast]
        obtain ⟨c, hc⟩ : ∃ c, L[k]? = some c := ⟨_, List.getElem?_eq_getElem hkl⟩
        rw [hc]
        obtain ⟨ol, capl, hlv⟩ := slice_of h.ref.row
        obtain ⟨gl, capl', hlv2, _⟩ := own_slice h.ref.row (by omega)
        have hRr := h.ref
        rw [hlv2] at hRr
        have r1 : W.cell? ⟨rb, 1, none⟩ = some (.slice (some ⟨gl, 0, none⟩) L.length capl') := cell_of_row _ _ 1 _ _ _ hRr.top
        have c8 : W.cell? ⟨gl, k * 9 + 8, none⟩ = some (.bool c.held) := by
          rw [hRr.cell hc (by omega), c.cells_eq]
          rfl
        have o3 : (0 : Int) ≤ k := Int.natCast_nonneg _
        have o4 : (k : Int) < L.length := by omega
        simp only [Option.getD_some, Bool.false_or]
        generalize c.held = hh at *
        clear h hR hcel hv hk hkl hc hRr hlv hlv2
        go_enter Tryz.func19, Tryz.ntmps19
        go_upto_region 1 with fail
        have inst : Nonempty (TBW W) := ⟨⟨_, Below.refl _ _⟩⟩
        have e1 := TBW.cell p1
        have e3 := TBW.cell p3
        have e4 := TBW.cell c4
        have e5 := TBW.cell r1
        have e6 := TBW.cell c8
        clear p1 p3 c4 r1 c8
        refine tbw_region (by kernel_rfl) (by kernel_rfl) ?_
        repeat (go_big_quiet_step (fail))
        refine wpQuiet_nil ?_
        intro _ hw'
        obtain ⟨pw, hw''⟩ := hw'
        subst hw''
        go_wp2
        go_ret
        exact ⟨rfl, pw.h⟩
    · have hR : aliveB L vs (n : Int) = false := by
        unfold aliveB
        rw [Int.toNat_natCast, List.getElem?_eq_none (by omega)]
      rw [hR]
      have o1 : ¬ (n : Int) < vs.length := by omega
      have o2 : decide ((n : Int) < vs.length) = false := decide_eq_false o1
      clear h hR p1
      go_enter Tryz.func19, Tryz.ntmps19
      go_upto_region 1 with fail
      have inst : Nonempty (TBW W) := ⟨⟨_, Below.refl _ _⟩⟩
      have e3 := TBW.cell p3
      clear p3
      refine tbw_region (by kernel_rfl) (by kernel_rfl) ?_
      repeat (go_big_quiet_step (fail))
      refine wpQuiet_nil ?_
      intro _ hw'
      obtain ⟨pw, hw''⟩ := hw'
      subst hw''
      go_wp2
      go_ret
      exact ⟨rfl, pw.h⟩
  · have hR : aliveB L vs i = false := by
      unfold aliveB
      cases vs[i.toNat]? with
      | none => rfl
      | some v => simp only [Bool.and_eq_false_iff]; exact .inl (decide_eq_false (by omega))
    rw [hR]
    have q1' : decide (i ≥ 0) = false := decide_eq_false q1
    clear h hR p1 p3
    go_enter Tryz.func19, Tryz.ntmps19
    go_upto_region 1 with fail
    have inst : Nonempty (TBW W) := ⟨⟨_, Below.refl _ _⟩⟩
    refine tbw_region (by kernel_rfl) (by kernel_rfl) ?_
    repeat (go_big_quiet_step (fail))
    refine wpQuiet_nil ?_
    intro _ hw'
    obtain ⟨pw, hw''⟩ := hw'
    subst hw''
    go_wp2
    go_ret
    exact ⟨rfl, pw.h⟩
end
end Go.Proofs.YtndkfjoaiinjoaaGreat.W
