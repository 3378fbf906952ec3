import Derived.Test.YtndkfjoaiinjoaaGreatBase34
/- The reference's text (casketref8): Concat. -/
namespace Go.Proofs.YtndkfjoaiinjoaaGreat.W
open Go.ChangeShapes Go.WideShapes Go.RowKit Go.Shelf
set_option linter.unusedVariables false
set_option linter.unusedSimpArgs false
set_option maxRecDepth 100000 in
theorem concat8_no (wh wh' : Bool) (i c i' c' : Int) (x y : ByteArray) (hb : (wh || wh') = true) (hp vr : Value) (W : World) : Calls Tryz.prog 44 #[hp, .agg #[.int .i64 (kdW wh), .int .i64 i, .int .u64 0, .string x, .int .i64 c], .agg #[.int .i64 (kdW wh'), .int .i64 i', .int .u64 0, .string y, .int .i64 c'], vr] W fun e w' => e = .returned (.tuple #[.agg #[.int .i64 0, .int .i64 0, .int .u64 0, .string ⟨#[]⟩, .int .i64 0], .int .i64 51]) ∧ Below W.heap.size W w' := by
  obtain ⟨w2, hw2⟩ : ∃ w2, (((W.alloc (.cells #[.int .i64 (kdW wh), .int .i64 i, .int .u64 0, .string x, .int .i64 c] 95)).alloc (.cells #[.int .i64 (kdW wh'), .int .i64 i', .int .u64 0, .string y, .int .i64 c'] 95)).alloc (.cells #[.int .i64 0, .int .i64 0, .int .u64 0, .string ⟨#[]⟩, .int .i64 0] 95)).alloc (.cells #[.int .i64 (kdW wh), .int .i64 i, .int .u64 0, .string x, .int .i64 c, .int .i64 (kdW wh'), .int .i64 i', .int .u64 0, .string y, .int .i64 c'] 95) = w2 := ⟨_, rfl⟩
  obtain ⟨hB, f0, f1, f2, f3, z2⟩ := four_alloc W _ _ _ _ _ hw2
  have cs := str2 wh wh' i c i' c' x y _ w2 f3
  rw [hb, show erW true = 51 from rfl] at cs
  have c0 := fun j => cell_of_row w2 _ j _ _ _ f2
  have zR : ∀ j, w2.frozen? ⟨W.heap.size + 2, j, none⟩ = false := fun j => by simp only [World.frozen?, f2]; simp
  have F2 := hid f2
  clear f0 f1 f2 f3
  generalize kdW wh = kd at *
  generalize kdW wh' = kd' at *
  go_enter Tryz.func44, Tryz.ntmps44
  go_wp2_with (go_at_call 80; (with_reducible refine cs.mono ?_); rintro e w' ⟨rfl, hw⟩; (have hw' := hw.symm); subst hw'; clear hw)
  refine bodyPost_ret (tv_ret2 rfl _ _ (W.heap.size + 2) _ _ _ _ _ (0, 0) rfl (five_set F2.out _ _ _ _ _)) rfl ?_
  exact ⟨rfl, five_below hB (by omega) _ _ _ _ _⟩
section
variable {W : World} {rb room : Nat} {lv : Value} {L : List Rc}
set_option maxRecDepth 100000 in
set_option maxHeartbeats 4000000 in
theorem concat8_c (h : Rh W rb lv room L) (hl : L.length < 100000) (hL : ∀ c ∈ L, c.ch ≤ 100000000) (hroom : room ≤ 1000000000000) (vr : Value) (vs : List Tv) (hr : W.ownsRow 0 95 5 vr vs.length (flatT vs)) (hin : ∀ v ∈ vs, v.cell < 0 ∨ ∃ k : Nat, v.cell = k ∧ k < L.length) (hn : vs.length ≤ 2000000) (i i' c c' : Int) (x y : ByteArray)
    (hc : c < 0 ∨ ∃ k : Nat, c = k ∧ k < L.length) (hc' : c' < 0 ∨ ∃ k : Nat, c' = k ∧ k < L.length) (hx : x.size ≤ 50000) (hy : y.size ≤ 50000) (t0 : Int) :
    Calls Tryz.prog 44 #[.pointer (some ⟨rb, 0, none⟩), .agg (Tv.cells ⟨false, i, x, c⟩).toArray, .agg (Tv.cells ⟨false, i', y, c'⟩).toArray, vr] W (SPost W rb lv room L ((vs ++ [Tv.mk false i x c, Tv.mk false i' y c']).map Tv.cell) ⟨false, 0, x ++ y, t0⟩ (decide ((x ++ y).size ≤ 5))) := by
  obtain ⟨orr, capr, rfl⟩ := slice_of hr
  have cs4 : ∀ (w4 : World) (v : Value), Below W.heap.size W w4 → w4.ownsRow 0 95 5 v (vs ++ [Tv.mk false i x c, Tv.mk false i' y c']).length (flatT (vs ++ [Tv.mk false i x c, Tv.mk false i' y c'])) → Calls Tryz.prog 41 #[.pointer (some ⟨rb, 0, none⟩), .string (x ++ y), v] w4 (SPost w4 rb lv room L ((vs ++ [Tv.mk false i x c, Tv.mk false i' y c']).map Tv.cell) ⟨false, 0, x ++ y, t0⟩ (decide ((x ++ y).size ≤ 5))) := by
    intro w4 v hB hv
    refine string7_c (h.below hB) hl hL hroom v _ hv ?_ (by simp; omega) (x ++ y) (by rw [ByteArray.size_append]; omega) t0
    intro u hu
    rcases List.mem_append.1 hu with hu | hu
    · exact hin u hu
    · simp at hu
      rcases hu with rfl | rfl
      · exact hc
      · exact hc'
  simp only [Tv.cells]
  change Calls _ _ #[_, .agg #[.int .i64 4, .int .i64 i, .int .u64 0, .string x, .int .i64 c], .agg #[.int .i64 4, .int .i64 i', .int .u64 0, .string y, .int .i64 c'], _] _ _
  obtain ⟨w2, hw2⟩ : ∃ w2, (((W.alloc (.cells #[.int .i64 4, .int .i64 i, .int .u64 0, .string x, .int .i64 c] 95)).alloc (.cells #[.int .i64 4, .int .i64 i', .int .u64 0, .string y, .int .i64 c'] 95)).alloc (.cells #[.int .i64 0, .int .i64 0, .int .u64 0, .string ⟨#[]⟩, .int .i64 0] 95)).alloc (.cells #[.int .i64 4, .int .i64 i, .int .u64 0, .string x, .int .i64 c, .int .i64 4, .int .i64 i', .int .u64 0, .string y, .int .i64 c'] 95) = w2 := ⟨_, rfl⟩
  obtain ⟨hB, f0, f1, f2, f3, z2⟩ := four_alloc W _ _ _ _ _ hw2
  have cs := str2 false false i c i' c' x y _ w2 f3
  rw [show erW (false || false) = 0 from rfl] at cs
  have hm : ¬ 9223372036854775807 < x.size + y.size := by omega
  have HR := hid (owns_on hr (fun k e => hB.block k (hr.lt k e).2))
  have HW := hid (And.intro h hB)
  have HF := hid (And.intro f0 (And.intro f1 f2))
  have Z2 := hid z2
  have NN := hid hn
  clear h hr hin hc hc' hL hB f0 f1 f2 f3 z2 hn
  go_enter Tryz.func44, Tryz.ntmps44
  go_upto_region 4 with (go_at_call 80; (with_reducible refine cs.mono ?_); rintro e w' ⟨rfl, hw⟩; (have hw' := hw.symm); subst hw'; clear hw)
  clear cs hw2
  generalize hb0 : W.heap.size = b0 at *
  have HS0 := hid (show w2.drew.heap[b0]? = some (.cells #[.int .i64 4, .int .i64 i, .int .u64 0, .string x, .int .i64 c] 95 (0, 0)) ∧ w2.drew.heap[b0 + 1]? = some (.cells #[.int .i64 4, .int .i64 i', .int .u64 0, .string y, .int .i64 c'] 95 (0, 0)) from ⟨HF.out.1, HF.out.2.1⟩)
  refine wp_region_noPanic ?_
  refine plain_anyL (z := 17) (S := fun w' => w'.heap[b0]? = some (.cells #[.int .i64 4, .int .i64 i, .int .u64 0, .string x, .int .i64 c] 95 (0, 0)) ∧ w'.heap[b0 + 1]? = some (.cells #[.int .i64 4, .int .i64 i', .int .u64 0, .string y, .int .i64 c'] 95 (0, 0))) (by kernel_rfl) ?_
  have hS := HS0.out
  (refine anyL_take (i := 0) (v := ?_) rfl (by kernel_rfl) (by kernel_rfl) (by kernel_rfl) (by kernel_rfl) (fun _ _ _ h => h) (Or.inl ⟨by rfl, ?_⟩) hS ?_); rotate_left; (focus (intro w' hSw; obtain ⟨q1, q2⟩ := hSw; (have e1 := fun j => cell_of_row w' b0 j _ _ _ q1); (have e2 := fun j => cell_of_row w' (b0 + 1) j _ _ _ q2); go_simp; (try with_reducible rfl))); (try simp only [Act.put, List.getElem_toArray, List.getElem_cons_zero, List.getElem_cons_succ, List.setIfInBounds_toArray, List.set_cons_zero, List.set_cons_succ])
  (refine anyL_take (i := 1) (v := ?_) rfl (by kernel_rfl) (by kernel_rfl) (by kernel_rfl) (by kernel_rfl) (fun _ _ _ h => h) (Or.inl ⟨by rfl, ?_⟩) hS ?_); rotate_left; (focus (intro w' hSw; obtain ⟨q1, q2⟩ := hSw; (have e1 := fun j => cell_of_row w' b0 j _ _ _ q1); (have e2 := fun j => cell_of_row w' (b0 + 1) j _ _ _ q2); go_simp; (try with_reducible rfl))); (try simp only [Act.put, List.getElem_toArray, List.getElem_cons_zero, List.getElem_cons_succ, List.setIfInBounds_toArray, List.set_cons_zero, List.set_cons_succ])
  (refine anyL_take (i := 2) (v := ?_) rfl (by kernel_rfl) (by kernel_rfl) (by kernel_rfl) (by kernel_rfl) (fun _ _ _ h => h) (Or.inl ⟨by rfl, ?_⟩) hS ?_); rotate_left; (focus (intro w' hSw; obtain ⟨q1, q2⟩ := hSw; (have e1 := fun j => cell_of_row w' b0 j _ _ _ q1); (have e2 := fun j => cell_of_row w' (b0 + 1) j _ _ _ q2); go_simp; (try with_reducible rfl))); (try simp only [Act.put, List.getElem_toArray, List.getElem_cons_zero, List.getElem_cons_succ, List.setIfInBounds_toArray, List.set_cons_zero, List.set_cons_succ])
  (refine anyL_take (i := 3) (v := ?_) rfl (by kernel_rfl) (by kernel_rfl) (by kernel_rfl) (by kernel_rfl) (fun _ _ _ h => h) (Or.inl ⟨by rfl, ?_⟩) hS ?_); rotate_left; (focus (intro w' hSw; obtain ⟨q1, q2⟩ := hSw; (have e1 := fun j => cell_of_row w' b0 j _ _ _ q1); (have e2 := fun j => cell_of_row w' (b0 + 1) j _ _ _ q2); go_simp; (try with_reducible rfl))); (try simp only [Act.put, List.getElem_toArray, List.getElem_cons_zero, List.getElem_cons_succ, List.setIfInBounds_toArray, List.set_cons_zero, List.set_cons_succ])
  (refine anyL_take (i := 4) (v := ?_) rfl (by kernel_rfl) (by kernel_rfl) (by kernel_rfl) (by kernel_rfl) (fun _ _ _ h => h) (Or.inl ⟨by rfl, ?_⟩) hS ?_); rotate_left; (focus (intro w' hSw; obtain ⟨q1, q2⟩ := hSw; (have e1 := fun j => cell_of_row w' b0 j _ _ _ q1); (have e2 := fun j => cell_of_row w' (b0 + 1) j _ _ _ q2); go_simp; (try with_reducible rfl))); (try simp only [Act.put, List.getElem_toArray, List.getElem_cons_zero, List.getElem_cons_succ, List.setIfInBounds_toArray, List.set_cons_zero, List.set_cons_succ])
  (refine anyL_take (i := 5) (v := ?_) rfl (by kernel_rfl) (by kernel_rfl) (by kernel_rfl) (by kernel_rfl) (fun _ _ _ h => h) (Or.inl ⟨by rfl, ?_⟩) hS ?_); rotate_left; (focus (intro w' hSw; obtain ⟨q1, q2⟩ := hSw; (have e1 := fun j => cell_of_row w' b0 j _ _ _ q1); (have e2 := fun j => cell_of_row w' (b0 + 1) j _ _ _ q2); go_simp; (try with_reducible rfl))); (try simp only [Act.put, List.getElem_toArray, List.getElem_cons_zero, List.getElem_cons_succ, List.setIfInBounds_toArray, List.set_cons_zero, List.set_cons_succ])
  (refine anyL_take (i := 7) (v := ?_) rfl (by kernel_rfl) (by kernel_rfl) (by kernel_rfl) (by kernel_rfl) (fun _ _ _ h => h) (Or.inl ⟨by rfl, ?_⟩) hS ?_); rotate_left; (focus (intro w' hSw; obtain ⟨q1, q2⟩ := hSw; (have e1 := fun j => cell_of_row w' b0 j _ _ _ q1); (have e2 := fun j => cell_of_row w' (b0 + 1) j _ _ _ q2); go_simp; (try with_reducible rfl))); (try simp only [Act.put, List.getElem_toArray, List.getElem_cons_zero, List.getElem_cons_succ, List.setIfInBounds_toArray, List.set_cons_zero, List.set_cons_succ])
  (refine anyL_take (i := 9) (v := ?_) rfl (by kernel_rfl) (by kernel_rfl) (by kernel_rfl) (by kernel_rfl) (fun _ _ _ h => h) (Or.inl ⟨by rfl, ?_⟩) hS ?_); rotate_left; (focus (intro w' hSw; obtain ⟨q1, q2⟩ := hSw; (have e1 := fun j => cell_of_row w' b0 j _ _ _ q1); (have e2 := fun j => cell_of_row w' (b0 + 1) j _ _ _ q2); go_simp; (try with_reducible rfl))); (try simp only [Act.put, List.getElem_toArray, List.getElem_cons_zero, List.getElem_cons_succ, List.setIfInBounds_toArray, List.set_cons_zero, List.set_cons_succ])
  (refine anyL_take (i := 10) (v := ?_) rfl (by kernel_rfl) (by kernel_rfl) (by kernel_rfl) (by kernel_rfl) (fun _ _ _ h => h) (Or.inl ⟨by rfl, ?_⟩) hS ?_); rotate_left; (focus (intro w' hSw; obtain ⟨q1, q2⟩ := hSw; (have e1 := fun j => cell_of_row w' b0 j _ _ _ q1); (have e2 := fun j => cell_of_row w' (b0 + 1) j _ _ _ q2); go_simp; (try with_reducible rfl))); (try simp only [Act.put, List.getElem_toArray, List.getElem_cons_zero, List.getElem_cons_succ, List.setIfInBounds_toArray, List.set_cons_zero, List.set_cons_succ])
  clear hS
  have SS := hid (show ∀ w, Below w2.heap.size w2 w → w.heap[b0]? = some (.cells #[.int .i64 4, .int .i64 i, .int .u64 0, .string x, .int .i64 c] 95 (0, 0)) ∧ w.heap[b0 + 1]? = some (.cells #[.int .i64 4, .int .i64 i', .int .u64 0, .string y, .int .i64 c'] 95 (0, 0)) from fun w hw => ⟨(hw.block _ (by have := Z2.out; omega)).trans HF.out.1, (hw.block _ (by have := Z2.out; omega)).trans HF.out.2.1⟩)
  refine anyL_cut (fun a0 a' w' => ∃ s25 v27 s30 o cap, a' = (((a0.put (some 25) s25).put (some 27) v27).put (some 30) s30).put (some 31) (.slice o (vs.length + 2) cap) ∧ Below w2.heap.size w2 w' ∧ w'.ownsRow 0 95 5 (.slice o (vs.length + 2) cap) (vs ++ [Tv.mk false i x c, Tv.mk false i' y c']).length (flatT (vs ++ [Tv.mk false i x c, Tv.mk false i' y c']))) 5 #[true, true, true, true, true, true, true, true, true, true, true, true, true, false, false, false, false, false] ?tail (fun TAIL => ?main)
  case tail =>
    rintro a' w4 ⟨s25, v27, s30, o, cap, rfl, hB4, hown⟩
    (try simp only [Act.put, List.getElem_toArray, List.getElem_cons_zero, List.getElem_cons_succ, List.setIfInBounds_toArray, List.set_cons_zero, List.set_cons_succ])
    have hBW := HW.out.2.trans (hB4.mono (by rw [← hb0]; exact HW.out.2.size))
    have cc := cs4 w4 _ hBW hown
    refine anyL_one (i := 13) (by kernel_rfl) rfl rfl (fun K hK => ?_)
    go_simp
    refine ⟨trivial, (callsIn_wide.2 cc).mono ?_⟩
    intro e w5 hP
    obtain ⟨x0, x1, x3, x4, yy, rfl⟩ := hP.two
    have hz4 : b0 + 4 ≤ w4.heap.size := by have := hB4.size; have := Z2.out; omega
    have hU5 : ∀ k, b0 ≤ k → k < w4.heap.size → w5.heap[k]? = w4.heap[k]? := fun k h1 h2 => hP.choose_spec.1.block k h2 (fun e => by have := HW.out.1.lt k e; omega)
    have hS : w5.heap[b0]? = some (.cells #[.int .i64 4, .int .i64 i, .int .u64 0, .string x, .int .i64 c] 95 (0, 0)) ∧ w5.heap[b0 + 1]? = some (.cells #[.int .i64 4, .int .i64 i', .int .u64 0, .string y, .int .i64 c'] 95 (0, 0)) := ⟨(hU5 b0 (by omega) (by omega)).trans (SS.out w4 hB4).1, (hU5 (b0 + 1) (by omega) (by omega)).trans (SS.out w4 hB4).2⟩
    have g2 : w5.heap[b0 + 1 + 1]? = some (.cells #[.int .i64 0, .int .i64 0, .int .u64 0, .string ⟨#[]⟩, .int .i64 0] 95 (0, 0)) := ((hU5 (b0 + 2) (by omega) (by omega)).trans (hB4.block _ (by have := Z2.out; omega))).trans HF.out.2.2
    refine hK _ _ (.inr hS) ?_
    clear hK K cc
    (try simp only [Act.put, List.getElem_toArray, List.getElem_cons_zero, List.getElem_cons_succ, List.setIfInBounds_toArray, List.set_cons_zero, List.set_cons_succ])
    (refine anyL_take (i := 14) (v := ?_) rfl (by kernel_rfl) (by kernel_rfl) (by kernel_rfl) (by kernel_rfl) (fun _ _ _ h => h) (Or.inl ⟨by rfl, ?_⟩) hS ?_); rotate_left; (focus (intro w' hSw; obtain ⟨q1, q2⟩ := hSw; (have e1 := fun j => cell_of_row w' b0 j _ _ _ q1); (have e2 := fun j => cell_of_row w' (b0 + 1) j _ _ _ q2); go_simp; (try with_reducible rfl))); (try simp only [Act.put, List.getElem_toArray, List.getElem_cons_zero, List.getElem_cons_succ, List.setIfInBounds_toArray, List.set_cons_zero, List.set_cons_succ])
    (refine anyL_take (i := 15) (v := ?_) rfl (by kernel_rfl) (by kernel_rfl) (by kernel_rfl) (by kernel_rfl) (fun _ _ _ h => h) (Or.inl ⟨by rfl, ?_⟩) hS ?_); rotate_left; (focus (intro w' hSw; obtain ⟨q1, q2⟩ := hSw; (have e1 := fun j => cell_of_row w' b0 j _ _ _ q1); (have e2 := fun j => cell_of_row w' (b0 + 1) j _ _ _ q2); go_simp; (try with_reducible rfl))); (try simp only [Act.put, List.getElem_toArray, List.getElem_cons_zero, List.getElem_cons_succ, List.setIfInBounds_toArray, List.set_cons_zero, List.set_cons_succ])
    refine anyL_one (i := 16) (by kernel_rfl) rfl rfl (fun K hK => ?_)
    have d0 := fun j => cell_of_row w5 _ j _ _ _ g2
    have zR : ∀ j, w5.frozen? ⟨b0 + 1 + 1, j, none⟩ = false := fun j => by simp only [World.frozen?, g2]; simp
    go_simp
    refine hK _ _ (.inr ⟨(five_far (gb := b0 + 1 + 1) (k := b0) (by omega) _ _ _ _ _).trans hS.1, (five_far (gb := b0 + 1 + 1) (k := b0 + 1) (by omega) _ _ _ _ _).trans hS.2⟩) ?_
    clear hK K d0 zR
    (try simp only [Act.put, List.getElem_toArray, List.getElem_cons_zero, List.getElem_cons_succ, List.setIfInBounds_toArray, List.set_cons_zero, List.set_cons_succ])
    refine anyL_one (i := 17) (by kernel_rfl) rfl rfl (fun K hK => ?_)
    go_simp
    refine hK _ _ (.inl rfl) ?_
    clear hK K
    (try simp only [Act.put, List.getElem_toArray, List.getElem_cons_zero, List.getElem_cons_succ, List.setIfInBounds_toArray, List.set_cons_zero, List.set_cons_succ])
    refine anyL_done (by kernel_rfl) ?_ _
    refine NoPanic.normal ?_
    have F5 := hid (five_set g2 (.int .i64 x0) (.int .i64 x1) (.int .u64 0) (.string x3) (.int .i64 x4))
    have HP := hid hP
    clear hP g2 hS hU5
    generalize hw6 : ((((w5.setCell ⟨b0 + 1 + 1, 0, none⟩ (.int .i64 x0)).setCell ⟨b0 + 1 + 1, 1, none⟩ (.int .i64 x1)).setCell ⟨b0 + 1 + 1, 2, none⟩ (.int .u64 0)).setCell ⟨b0 + 1 + 1, 3, none⟩ (.string x3)).setCell ⟨b0 + 1 + 1, 4, none⟩ (.int .i64 x4) = w6 at *
    go_wp2
    refine bodyPost_ret (tv_ret2 rfl _ _ (b0 + 1 + 1) _ _ _ _ _ (0, 0) rfl F5.out) rfl ?_
    refine HP.out.wrap HW.out.1 (by rw [hb0]; exact hBW) (gb := b0 + 1 + 1) (by omega) (by omega) ?_
    rw [← hw6]
    have us : ∀ {b : World}, Upd (fun k => k = b0 + 1 + 1) w5 b → ∀ (o : Nat) (v : Value), Upd (fun k => k = b0 + 1 + 1) w5 (b.setCell ⟨b0 + 1 + 1, o, none⟩ v) := fun h o v => h.setCell (p := ⟨b0 + 1 + 1, o, none⟩) (.inl rfl) v
    exact us (us (us (us (us (Upd.refl _ w5) _ _) _ _) _ _) _ _) _ _
  case main =>
    have hB0 : Below w2.heap.size w2 w2.drew := (Below.refl _ w2).drew
    have OWN := hid (show ∀ w, Below w2.heap.size w2 w → w.ownsRow 0 95 5 (.slice orr vs.length capr) vs.length (flatT vs) from fun w hw => owns_on HR.out (fun k e => hw.block k (HR.out.lt k e).2))
    have N1 := NN.out
    refine anyL_two (i := 6) (j := 11) (by kernel_rfl) rfl rfl rfl rfl (fun K hK => ?_) (fun K hK => ?_)
    · -- the empty row first
      go_simp
      have hBa : Below w2.heap.size w2 (w2.alloc (.cells #[] 95)).drew := ((Below.refl _ w2).alloc (Nat.le_refl _) _).drew
      have ga : (w2.alloc (.cells #[] 95)).drew.heap[w2.heap.size]? = some (.cells #[] 95 (0, 0)) := World.alloc_heap_new w2 (.cells #[] 95)
      have za : (w2.alloc (.cells #[] 95)).drew.heap.size = w2.heap.size + 1 := World.size_alloc w2 _
      refine hK _ _ (.inr (SS.out _ hBa)) ?_
      clear hK K
      (try simp only [Act.put, List.getElem_toArray, List.getElem_cons_zero, List.getElem_cons_succ, List.setIfInBounds_toArray, List.set_cons_zero, List.set_cons_succ])
      generalize (w2.alloc (.cells #[] 95)).drew = wa at *
      have ZA := hid za
      clear za
      have oa := lit_own wa w2.heap.size [] (by simp) ga
      refine anyL_two (i := 8) (j := 11) (by kernel_rfl) rfl rfl rfl rfl (fun K hK => ?_) (fun K hK => ?_)
      · obtain ⟨v1, wb, hrun, ho1, hg1, hk1⟩ := app_vals wa 57 _ [] oa (.slice orr vs.length capr) vs (OWN.out wa hBa) (by simp; omega)
        rw [List.nil_append] at ho1
        refine opIn_plain (fun c h => by cases h) ?_
        refine Lib.wp_append_run _ (.tmp 25) (.tmp 26) 57 57 rfl _ _ rfl rfl _ _ hrun ?_
        have hBb : Below w2.heap.size w2 wb := hBa.grown hg1 hBa.size (fun k e => by have : w2.heap.size = k := by simpa [Value.ownBlock] using e
                                                                                     omega)
        refine hK _ _ (.inr (SS.out _ hBb)) ?_
        clear hK K hrun
        (try simp only [Act.put, List.getElem_toArray, List.getElem_cons_zero, List.getElem_cons_succ, List.setIfInBounds_toArray, List.set_cons_zero, List.set_cons_succ])
        have ob := fun w (hw : Below wb.heap.size wb w) => (owns_on ho1 (fun k e => hw.block k (ho1.lt k e).2) : w.ownsRow 0 95 5 v1 vs.length (flatT vs))
        have hvb : ∀ k, v1.ownBlock = some k → w2.heap.size ≤ k := fun k e => by
          rcases hk1 k e with e | e
          · have : w2.heap.size = k := by simpa [Value.ownBlock] using e
            omega
          · have := ZA.out
            omega
        refine anyL_one (i := 11) (by kernel_rfl) rfl rfl (fun K hK => ?_)
        go_simp
        have hBc0 : Below wb.heap.size wb (wb.alloc (.cells #[.int .i64 4, .int .i64 i, .int .u64 0, .string x, .int .i64 c, .int .i64 4, .int .i64 i', .int .u64 0, .string y, .int .i64 c'] 95)) := (Below.refl _ wb).alloc (Nat.le_refl _) _
        have hBc : Below w2.heap.size w2 (wb.alloc (.cells #[.int .i64 4, .int .i64 i, .int .u64 0, .string x, .int .i64 c, .int .i64 4, .int .i64 i', .int .u64 0, .string y, .int .i64 c'] 95)) := hBb.trans (hBc0.mono hBb.size)
        have gc : (wb.alloc (.cells #[.int .i64 4, .int .i64 i, .int .u64 0, .string x, .int .i64 c, .int .i64 4, .int .i64 i', .int .u64 0, .string y, .int .i64 c'] 95)).heap[wb.heap.size]? = some (.cells #[.int .i64 4, .int .i64 i, .int .u64 0, .string x, .int .i64 c, .int .i64 4, .int .i64 i', .int .u64 0, .string y, .int .i64 c'] 95 (0, 0)) := World.alloc_heap_new wb _
        have oc := ob _ hBc0
        refine hK _ _ (.inr (SS.out _ hBc)) ?_
        clear hK K
        (try simp only [Act.put, List.getElem_toArray, List.getElem_cons_zero, List.getElem_cons_succ, List.setIfInBounds_toArray, List.set_cons_zero, List.set_cons_succ])
        generalize wb.alloc (.cells #[.int .i64 4, .int .i64 i, .int .u64 0, .string x, .int .i64 c, .int .i64 4, .int .i64 i', .int .u64 0, .string y, .int .i64 c'] 95) = wc at *
        obtain ⟨v2, wd, hrun2, ho2, hg2, hk2⟩ := app_vals wc 57 v1 vs oc _ [Tv.mk false i x c, Tv.mk false i' y c'] (lit_own wc wb.heap.size [Tv.mk false i x c, Tv.mk false i' y c'] (by simp) gc) (by simp; omega)
        obtain ⟨o2, cap2, hv2⟩ := slice_of ho2
        rw [show (vs ++ [Tv.mk false i x c, Tv.mk false i' y c']).length = vs.length + 2 by simp] at hv2
        subst hv2
        have hBd : Below w2.heap.size w2 wd := hBc.grown hg2 hBc.size hvb
        refine anyL_one (i := 12) (by kernel_rfl) rfl rfl (fun K hK => ?_)
        refine opIn_plain (fun c h => by cases h) ?_
        refine Lib.wp_append_run _ (.tmp 27) (.tmp 30) 57 57 rfl _ _ rfl rfl _ _ hrun2 ?_
        refine hK _ _ (.inr (SS.out _ hBd)) ?_
        clear hK K hrun2
        (try simp only [Act.put, List.getElem_toArray, List.getElem_cons_zero, List.getElem_cons_succ, List.setIfInBounds_toArray, List.set_cons_zero, List.set_cons_succ])
        refine anyL_same (by kernel_rfl) ?_ (TAIL _ _ ⟨.slice (some ⟨w2.heap.size, 0, none⟩) 0 0, v1, .slice (some ⟨wb.heap.size, 0, none⟩) 2 2, o2, cap2, rfl, hBd, ho2⟩)
        (try simp only [Act.put, List.getElem_toArray, List.getElem_cons_zero, List.getElem_cons_succ, List.setIfInBounds_toArray, List.set_cons_zero, List.set_cons_succ])
      · go_simp
        have za := ZA.out
        have hBc0 : Below wa.heap.size wa (wa.alloc (.cells #[.int .i64 4, .int .i64 i, .int .u64 0, .string x, .int .i64 c, .int .i64 4, .int .i64 i', .int .u64 0, .string y, .int .i64 c'] 95)) := (Below.refl _ wa).alloc (Nat.le_refl _) _
        have hBc : Below w2.heap.size w2 (wa.alloc (.cells #[.int .i64 4, .int .i64 i, .int .u64 0, .string x, .int .i64 c, .int .i64 4, .int .i64 i', .int .u64 0, .string y, .int .i64 c'] 95)) := hBa.trans (hBc0.mono hBa.size)
        have G1 : (wa.alloc (.cells #[.int .i64 4, .int .i64 i, .int .u64 0, .string x, .int .i64 c, .int .i64 4, .int .i64 i', .int .u64 0, .string y, .int .i64 c'] 95)).heap[wa.heap.size]? = some (.cells #[.int .i64 4, .int .i64 i, .int .u64 0, .string x, .int .i64 c, .int .i64 4, .int .i64 i', .int .u64 0, .string y, .int .i64 c'] 95 (0, 0)) := World.alloc_heap_new wa _
        have G0 : (wa.alloc (.cells #[.int .i64 4, .int .i64 i, .int .u64 0, .string x, .int .i64 c, .int .i64 4, .int .i64 i', .int .u64 0, .string y, .int .i64 c'] 95)).heap[w2.heap.size]? = some (.cells #[] 95 (0, 0)) := (hBc0.block _ (by omega)).trans ga
        refine hK _ _ (.inr (SS.out _ hBc)) ?_
        clear hK K
        (try simp only [Act.put, List.getElem_toArray, List.getElem_cons_zero, List.getElem_cons_succ, List.setIfInBounds_toArray, List.set_cons_zero, List.set_cons_succ])
        generalize wa.alloc (.cells #[.int .i64 4, .int .i64 i, .int .u64 0, .string x, .int .i64 c, .int .i64 4, .int .i64 i', .int .u64 0, .string y, .int .i64 c'] 95) = wc at *
        have o0 := lit_own wc w2.heap.size [] (by simp) G0
        obtain ⟨v1, wd, hrun, ho1, hg1, hk1⟩ := app_vals wc 57 _ [] o0 (.slice orr vs.length capr) vs (OWN.out wc hBc) (by simp; omega)
        rw [List.nil_append] at ho1
        have hgk : ∀ k, (Value.slice (some ⟨w2.heap.size, 0, none⟩) 0 0).ownBlock = some k → w2.heap.size = k := fun k e => by simpa [Value.ownBlock] using e
        have hBd : Below w2.heap.size w2 wd := hBc.grown hg1 hBc.size (fun k e => by have := hgk k e; omega)
        have gd : wd.heap[wa.heap.size]? = some (.cells #[.int .i64 4, .int .i64 i, .int .u64 0, .string x, .int .i64 c, .int .i64 4, .int .i64 i', .int .u64 0, .string y, .int .i64 c'] 95 (0, 0)) := (hg1.block _ (Array.getElem?_eq_some_iff.1 G1).1 (fun e => by have := hgk _ e.symm; omega)).trans G1
        refine anyL_one (i := 8) (by kernel_rfl) rfl rfl (fun K hK => ?_)
        refine opIn_plain (fun c h => by cases h) ?_
        refine Lib.wp_append_run _ (.tmp 25) (.tmp 26) 57 57 rfl _ _ rfl rfl _ _ hrun ?_
        refine hK _ _ (.inr (SS.out _ hBd)) ?_
        clear hK K hrun
        (try simp only [Act.put, List.getElem_toArray, List.getElem_cons_zero, List.getElem_cons_succ, List.setIfInBounds_toArray, List.set_cons_zero, List.set_cons_succ])
        obtain ⟨v2, we, hrun2, ho2, hg2, hk2⟩ := app_vals wd 57 v1 vs ho1 _ [Tv.mk false i x c, Tv.mk false i' y c'] (lit_own wd wa.heap.size [Tv.mk false i x c, Tv.mk false i' y c'] (by simp) gd) (by simp; omega)
        obtain ⟨o2, cap2, hv2⟩ := slice_of ho2
        rw [show (vs ++ [Tv.mk false i x c, Tv.mk false i' y c']).length = vs.length + 2 by simp] at hv2
        subst hv2
        have hBe : Below w2.heap.size w2 we := hBd.grown hg2 hBd.size (fun k e => by
          rcases hk1 k e with e | e
          · have := hgk k e
            omega
          · have := hBc.size
            omega)
        refine anyL_one (i := 12) (by kernel_rfl) rfl rfl (fun K hK => ?_)
        refine opIn_plain (fun c h => by cases h) ?_
        refine Lib.wp_append_run _ (.tmp 27) (.tmp 30) 57 57 rfl _ _ rfl rfl _ _ hrun2 ?_
        refine hK _ _ (.inr (SS.out _ hBe)) ?_
        clear hK K hrun2
        (try simp only [Act.put, List.getElem_toArray, List.getElem_cons_zero, List.getElem_cons_succ, List.setIfInBounds_toArray, List.set_cons_zero, List.set_cons_succ])
        refine anyL_same (by kernel_rfl) ?_ (TAIL _ _ ⟨.slice (some ⟨w2.heap.size, 0, none⟩) 0 0, v1, .slice (some ⟨wa.heap.size, 0, none⟩) 2 2, o2, cap2, rfl, hBe, ho2⟩)
        (try simp only [Act.put, List.getElem_toArray, List.getElem_cons_zero, List.getElem_cons_succ, List.setIfInBounds_toArray, List.set_cons_zero, List.set_cons_succ])
    · go_simp
      have hBa : Below w2.heap.size w2 (w2.alloc (.cells #[.int .i64 4, .int .i64 i, .int .u64 0, .string x, .int .i64 c, .int .i64 4, .int .i64 i', .int .u64 0, .string y, .int .i64 c'] 95)).drew := ((Below.refl _ w2).alloc (Nat.le_refl _) _).drew
      have ga : (w2.alloc (.cells #[.int .i64 4, .int .i64 i, .int .u64 0, .string x, .int .i64 c, .int .i64 4, .int .i64 i', .int .u64 0, .string y, .int .i64 c'] 95)).drew.heap[w2.heap.size]? = some (.cells #[.int .i64 4, .int .i64 i, .int .u64 0, .string x, .int .i64 c, .int .i64 4, .int .i64 i', .int .u64 0, .string y, .int .i64 c'] 95 (0, 0)) := World.alloc_heap_new w2 (.cells #[.int .i64 4, .int .i64 i, .int .u64 0, .string x, .int .i64 c, .int .i64 4, .int .i64 i', .int .u64 0, .string y, .int .i64 c'] 95)
      have za : (w2.alloc (.cells #[.int .i64 4, .int .i64 i, .int .u64 0, .string x, .int .i64 c, .int .i64 4, .int .i64 i', .int .u64 0, .string y, .int .i64 c'] 95)).drew.heap.size = w2.heap.size + 1 := World.size_alloc w2 _
      refine hK _ _ (.inr (SS.out _ hBa)) ?_
      clear hK K
      (try simp only [Act.put, List.getElem_toArray, List.getElem_cons_zero, List.getElem_cons_succ, List.setIfInBounds_toArray, List.set_cons_zero, List.set_cons_succ])
      generalize (w2.alloc (.cells #[.int .i64 4, .int .i64 i, .int .u64 0, .string x, .int .i64 c, .int .i64 4, .int .i64 i', .int .u64 0, .string y, .int .i64 c'] 95)).drew = wa at *
      have ZA := hid za
      clear za
      refine anyL_one (i := 6) (by kernel_rfl) rfl rfl (fun K hK => ?_)
      go_simp
      have za := ZA.out
      have hBc0 : Below wa.heap.size wa (wa.alloc (.cells #[] 95)) := (Below.refl _ wa).alloc (Nat.le_refl _) _
      have hBc : Below w2.heap.size w2 (wa.alloc (.cells #[] 95)) := hBa.trans (hBc0.mono hBa.size)
      have G0 : (wa.alloc (.cells #[] 95)).heap[wa.heap.size]? = some (.cells #[] 95 (0, 0)) := World.alloc_heap_new wa _
      have G1 : (wa.alloc (.cells #[] 95)).heap[w2.heap.size]? = some (.cells #[.int .i64 4, .int .i64 i, .int .u64 0, .string x, .int .i64 c, .int .i64 4, .int .i64 i', .int .u64 0, .string y, .int .i64 c'] 95 (0, 0)) := (hBc0.block _ (by omega)).trans ga
      refine hK _ _ (.inr (SS.out _ hBc)) ?_
      clear hK K
      (try simp only [Act.put, List.getElem_toArray, List.getElem_cons_zero, List.getElem_cons_succ, List.setIfInBounds_toArray, List.set_cons_zero, List.set_cons_succ])
      generalize wa.alloc (.cells #[] 95) = wc at *
      have o0 := lit_own wc wa.heap.size [] (by simp) G0
      obtain ⟨v1, wd, hrun, ho1, hg1, hk1⟩ := app_vals wc 57 _ [] o0 (.slice orr vs.length capr) vs (OWN.out wc hBc) (by simp; omega)
      rw [List.nil_append] at ho1
      have hgk : ∀ k, (Value.slice (some ⟨wa.heap.size, 0, none⟩) 0 0).ownBlock = some k → wa.heap.size = k := fun k e => by simpa [Value.ownBlock] using e
      have hBd : Below w2.heap.size w2 wd := hBc.grown hg1 hBc.size (fun k e => by have := hgk k e; omega)
      have gd : wd.heap[w2.heap.size]? = some (.cells #[.int .i64 4, .int .i64 i, .int .u64 0, .string x, .int .i64 c, .int .i64 4, .int .i64 i', .int .u64 0, .string y, .int .i64 c'] 95 (0, 0)) := (hg1.block _ (Array.getElem?_eq_some_iff.1 G1).1 (fun e => by have := hgk _ e.symm; omega)).trans G1
      refine anyL_one (i := 8) (by kernel_rfl) rfl rfl (fun K hK => ?_)
      refine opIn_plain (fun c h => by cases h) ?_
      refine Lib.wp_append_run _ (.tmp 25) (.tmp 26) 57 57 rfl _ _ rfl rfl _ _ hrun ?_
      refine hK _ _ (.inr (SS.out _ hBd)) ?_
      clear hK K hrun
      (try simp only [Act.put, List.getElem_toArray, List.getElem_cons_zero, List.getElem_cons_succ, List.setIfInBounds_toArray, List.set_cons_zero, List.set_cons_succ])
      obtain ⟨v2, we, hrun2, ho2, hg2, hk2⟩ := app_vals wd 57 v1 vs ho1 _ [Tv.mk false i x c, Tv.mk false i' y c'] (lit_own wd w2.heap.size [Tv.mk false i x c, Tv.mk false i' y c'] (by simp) gd) (by simp; omega)
      obtain ⟨o2, cap2, hv2⟩ := slice_of ho2
      rw [show (vs ++ [Tv.mk false i x c, Tv.mk false i' y c']).length = vs.length + 2 by simp] at hv2
      subst hv2
      have hBe : Below w2.heap.size w2 we := hBd.grown hg2 hBd.size (fun k e => by
        rcases hk1 k e with e | e
        · have := hgk k e
          omega
        · have := hBc.size
          omega)
      refine anyL_one (i := 12) (by kernel_rfl) rfl rfl (fun K hK => ?_)
      refine opIn_plain (fun c h => by cases h) ?_
      refine Lib.wp_append_run _ (.tmp 27) (.tmp 30) 57 57 rfl _ _ rfl rfl _ _ hrun2 ?_
      refine hK _ _ (.inr (SS.out _ hBe)) ?_
      clear hK K hrun2
      (try simp only [Act.put, List.getElem_toArray, List.getElem_cons_zero, List.getElem_cons_succ, List.setIfInBounds_toArray, List.set_cons_zero, List.set_cons_succ])
      refine anyL_same (by kernel_rfl) ?_ (TAIL _ _ ⟨.slice (some ⟨wa.heap.size, 0, none⟩) 0 0, v1, .slice (some ⟨w2.heap.size, 0, none⟩) 2 2, o2, cap2, rfl, hBe, ho2⟩)
      (try simp only [Act.put, List.getElem_toArray, List.getElem_cons_zero, List.getElem_cons_succ, List.setIfInBounds_toArray, List.set_cons_zero, List.set_cons_succ])
end
end Go.Proofs.YtndkfjoaiinjoaaGreat.W
