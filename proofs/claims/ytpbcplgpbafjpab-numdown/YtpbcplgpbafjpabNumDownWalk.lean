/- The walk of the statement NumDown: it returns true at every two whole numbers. -/
import Derived.Test.YtpbcplgpbafjpabNumAw
import Derived.Test.YtpbcplgpbafjpabNumX
import Derived.OpenShut
import Derived.RowKit3
import Derived.Deep.DeepCutAuto
namespace Go.Proofs.Ytpbcplgpbafjpab.W
open Go.ChangeShapes Go.WideShapes Go.RowKit
set_option maxRecDepth 100000 in
set_option maxHeartbeats 4000000 in
theorem numDown_err (a b f : Int) (w : World) (hF : (b = 0 ∧ f = 11) ∨ ((b == 0) = false ∧ a = -9223372036854775808 ∧ b = -1 ∧ f = 10))
    (c1 : ∀ w, Calls Try.prog 20 #[.agg #[.bool true, .int .i64 a, .int .u64 0], .agg #[.bool true, .int .i64 b, .int .u64 0]] w fun o w' => o = .returned (.tuple #[.agg #[.bool false, .int .i64 0, .int .u64 (opI .quo (fromI a) (fromI b))], .int .i64 0]) ∧ Gr w w')
    (c2 : ∀ w, Calls Try.prog 19 #[.agg #[.bool true, .int .i64 a, .int .u64 0], .agg #[.bool true, .int .i64 b, .int .u64 0]] w fun o w' => o = .returned (.tuple #[.agg #[.bool false, .int .i64 0, .int .u64 0], .int .i64 f]) ∧ Gr w w') :
    Calls Try.prog 8 #[.int .i64 a, .int .i64 b] w fun e w' => e = .returned (.bool true) ∧ Gr w w' := by
  have hG := Gr.refl w
  go_enter Try.func8, Try.ntmps8
  go_wp2_with (first | (go_at_call 10; refine (lawWhole_c _ _).mono ?_; rintro e w' ⟨rfl, hg⟩; replace hG := hG.trans hg; clear hg) | (go_at_call 20; (with_reducible refine (c1 _).mono ?_); rintro e wD ⟨rfl, hg⟩; replace hG := hG.trans hg; clear hg))
  generalize hW : World.alloc wD _ = W; have hg := Gr.of_eq hW; have fd := hg.new (Nat.zero_lt_succ _); replace hG := hG.trans hg.of_alloc; clear hg hW
  go_region_held3 (fun w' => ∀ i, w'.cell? ⟨wD.heap.size, i, none⟩ = #[Value.bool false, .int .i64 0, .int .u64 (opI .quo (fromI a) (fromI b))][i]?) (exact fd) (first | (go_at_call 18; refine (softFromInt_c _ _).mono ?_; rintro e w' ⟨rfl, rfl⟩) | (go_at_call 21; refine (softDiv_c _ _ _).mono ?_; rintro e w' ⟨rfl, m, hm⟩; have hg := Gr.of_same m hm; clear hm; (try replace hg := hg.of_drew); replace fd := hg.cells fd (Nat.zero_lt_succ _); replace hG := hG.trans hg; clear hg) | (go_at_call 17; refine (lawDouble_c _ _).mono ?_; rintro e w' ⟨rfl, hg⟩; (try replace hg := hg.of_drew); replace fd := hg.cells fd (Nat.zero_lt_succ _); replace hG := hG.trans hg; clear hg))
  clear fd
  rcases hF with ⟨rfl, rfl⟩ | ⟨h0, rfl, rfl, rfl⟩
  all_goals
    go_wp2_with (first | (go_at_call 10; refine (lawWhole_c _ _).mono ?_; rintro e w' ⟨rfl, hg⟩; replace hG := hG.trans hg; clear hg) | (go_at_call 19; (with_reducible refine (c2 _).mono ?_); rintro e wQ ⟨rfl, hg⟩; replace hG := hG.trans hg; clear hg) | (go_at_call 14; refine (awake_c _).mono ?_; rintro e w' ⟨rfl, hg⟩; (try replace hg := hg.of_drew); (try replace hg := hg.of_alloc); replace hG := hG.trans hg; clear hg))
    go_ret
    exact ⟨rfl, hG⟩
set_option maxRecDepth 100000 in
set_option maxHeartbeats 8000000 in
theorem numDown_ok (a b q pi pu g : Int) (pw : Bool) (w : World) (hC : (g != 0) = true ∨ (g = 0 ∧ (0 < b ∨ ¬ 0 < b)))
    (c1 : ∀ w, Calls Try.prog 20 #[.agg #[.bool true, .int .i64 a, .int .u64 0], .agg #[.bool true, .int .i64 b, .int .u64 0]] w fun o w' => o = .returned (.tuple #[.agg #[.bool false, .int .i64 0, .int .u64 (opI .quo (fromI a) (fromI b))], .int .i64 0]) ∧ Gr w w')
    (c2 : ∀ w, Calls Try.prog 19 #[.agg #[.bool true, .int .i64 a, .int .u64 0], .agg #[.bool true, .int .i64 b, .int .u64 0]] w fun o w' => o = .returned (.tuple #[.agg #[.bool true, .int .i64 q, .int .u64 0], .int .i64 0]) ∧ Gr w w')
    (c3 : ∀ w, Calls Try.prog 12 #[.agg #[.bool true, .int .i64 q, .int .u64 0], .agg #[.bool true, .int .i64 b, .int .u64 0]] w fun o w' => o = .returned (.tuple #[.agg #[.bool pw, .int .i64 pi, .int .u64 pu], .int .i64 g]) ∧ Gr w w')
    (c4 : g = 0 → 0 < b → ∀ w, Calls Try.prog 22 #[.agg #[.bool pw, .int .i64 pi, .int .u64 pu], .agg #[.bool true, .int .i64 a, .int .u64 0]] w fun o w' => o = .returned (.bool true) ∧ Gr w w')
    (c5 : g = 0 → ¬ 0 < b → ∀ w, Calls Try.prog 22 #[.agg #[.bool true, .int .i64 a, .int .u64 0], .agg #[.bool pw, .int .i64 pi, .int .u64 pu]] w fun o w' => o = .returned (.bool true) ∧ Gr w w') :
    Calls Try.prog 8 #[.int .i64 a, .int .i64 b] w fun e w' => e = .returned (.bool true) ∧ Gr w w' := by
  have hG := Gr.refl w
  go_enter Try.func8, Try.ntmps8
  have C4 := hid c4
  have C5 := hid c5
  clear c4 c5
  go_wp2_with (first | (go_at_call 10; refine (lawWhole_c _ _).mono ?_; rintro e w' ⟨rfl, hg⟩; replace hG := hG.trans hg; clear hg) | (go_at_call 20; (with_reducible refine (c1 _).mono ?_); rintro e wD ⟨rfl, hg⟩; replace hG := hG.trans hg; clear hg))
  generalize hW : World.alloc wD _ = W; have hg := Gr.of_eq hW; have fd := hg.new (Nat.zero_lt_succ _); replace hG := hG.trans hg.of_alloc; clear hg hW
  go_region_held3 (fun w' => ∀ i, w'.cell? ⟨wD.heap.size, i, none⟩ = #[Value.bool false, .int .i64 0, .int .u64 (opI .quo (fromI a) (fromI b))][i]?) (exact fd) (first | (go_at_call 18; refine (softFromInt_c _ _).mono ?_; rintro e w' ⟨rfl, rfl⟩) | (go_at_call 21; refine (softDiv_c _ _ _).mono ?_; rintro e w' ⟨rfl, m, hm⟩; have hg := Gr.of_same m hm; clear hm; (try replace hg := hg.of_drew); replace fd := hg.cells fd (Nat.zero_lt_succ _); replace hG := hG.trans hg; clear hg) | (go_at_call 17; refine (lawDouble_c _ _).mono ?_; rintro e w' ⟨rfl, hg⟩; (try replace hg := hg.of_drew); replace fd := hg.cells fd (Nat.zero_lt_succ _); replace hG := hG.trans hg; clear hg))
  clear fd c1
  go_wp2_with (first | (go_at_call 10; refine (lawWhole_c _ _).mono ?_; rintro e w' ⟨rfl, hg⟩; replace hG := hG.trans hg; clear hg) | (go_at_call 19; (with_reducible refine (c2 _).mono ?_); rintro e wQ ⟨rfl, hg⟩; replace hG := hG.trans hg; clear hg))
  clear c2
  generalize hW : World.alloc wQ _ = WQ
  have hg := Gr.of_eq hW
  have fs := hg.new (Nat.zero_lt_succ _)
  replace hG := hG.trans hg.of_alloc
  clear hg hW
  go_cut [9, 10] (fun p o wc => ∃ bx, p = .pointer (some ⟨bx, 0, none⟩) ∧ o = .int .i64 g ∧ (∀ i, wc.cell? ⟨bx, i, none⟩ = #[Value.bool pw, .int .i64 pi, .int .u64 pu][i]?) ∧ Gr w wc)
  case first =>
    clear hC
    go_region_held3 (fun w' => ∀ i, w'.cell? ⟨wQ.heap.size, i, none⟩ = #[Value.bool true, .int .i64 q, .int .u64 0][i]?) (first | exact fs | exact cells_alloc _ fs (Nat.zero_lt_succ _) | exact far1 lb fs _ _ _) (first | (go_at_call 10; refine (lawWhole_c _ _).mono ?_; rintro e w' ⟨rfl, hg⟩; (first | (have h3 := Gr.one_drew hg (Nat.zero_lt_succ _); have lb := cells_lt fs (Nat.zero_lt_succ _); have hb := hG.size; clear hg; obtain ⟨fx, fz, hg⟩ := h3) | (have h3 := Gr.one hg (Nat.zero_lt_succ _); have lb := cells_lt fs (Nat.zero_lt_succ _); have hb := hG.size; clear hg; obtain ⟨fx, fz, hg⟩ := h3) | (replace hg := hg.of_drew) | skip); (try replace fz := hg.thaw fx (Nat.zero_lt_succ _) fz); (try replace fx := hg.cells fx (Nat.zero_lt_succ _)); replace fs := hg.cells fs (Nat.zero_lt_succ _); replace hG := hG.trans hg; clear hg) | (go_at_call 12; refine (c3 _).mono ?_; rintro e wX ⟨rfl, hg⟩; (first | (have h3 := Gr.one_drew hg (Nat.zero_lt_succ _); have lb := cells_lt fs (Nat.zero_lt_succ _); have hb := hG.size; clear hg; obtain ⟨fx, fz, hg⟩ := h3) | (have h3 := Gr.one hg (Nat.zero_lt_succ _); have lb := cells_lt fs (Nat.zero_lt_succ _); have hb := hG.size; clear hg; obtain ⟨fx, fz, hg⟩ := h3) | (replace hg := hg.of_drew) | skip); (try replace fz := hg.thaw fx (Nat.zero_lt_succ _) fz); (try replace fx := hg.cells fx (Nat.zero_lt_succ _)); replace fs := hg.cells fs (Nat.zero_lt_succ _); replace hG := hG.trans hg; clear hg))
    all_goals go_wp2
    all_goals go_meet
    all_goals first | exact ⟨_, rfl, rfl, fun i => World.cell?_alloc_at _ _ _ i rfl, hG.alloc _⟩ | exact ⟨_, rfl, rfl, stored3 fx _ _ _, hG.store3 hb _ _ _⟩
  case rest =>
    clear fs hG c3
    obtain ⟨bx, rfl, rfl, fx, hG⟩ := hcut
    rcases hC with h1 | ⟨rfl, h1 | h1⟩
    · clear C4 C5
      go_wp2_with (go_at_call 14; refine (awake_c _).mono ?_; rintro e w' ⟨rfl, hg⟩; (try replace hg := hg.of_drew); (try replace hg := hg.of_alloc); replace hG := hG.trans hg; clear hg)
      go_ret
      exact ⟨rfl, hG⟩
    · have c4 := C4.out rfl h1
      clear C4 C5
      go_wp2
      go_region_held3 (fun w' => ∀ i, w'.cell? ⟨bx, i, none⟩ = #[Value.bool pw, .int .i64 pi, .int .u64 pu][i]?) (exact fx) (first | (go_at_call 10; refine (lawWhole_c _ _).mono ?_; rintro e w' ⟨rfl, hg⟩; (try replace hg := hg.of_drew); replace fx := hg.cells fx (Nat.zero_lt_succ _); replace hG := hG.trans hg; clear hg) | (go_at_call 22; refine (c4 _).mono ?_; rintro e w' ⟨rfl, hg⟩; (try replace hg := hg.of_drew); replace fx := hg.cells fx (Nat.zero_lt_succ _); replace hG := hG.trans hg; clear hg) | (go_at_call 14; refine (awake_c _).mono ?_; rintro e w' ⟨rfl, hg⟩; (try replace hg := hg.of_drew); replace fx := hg.cells fx (Nat.zero_lt_succ _); replace hG := hG.trans hg; clear hg))
      all_goals go_wp2
      all_goals go_ret
      all_goals exact ⟨rfl, hG⟩
    · have c5 := C5.out rfl h1
      clear C4 C5
      go_wp2
      go_region_held3 (fun w' => ∀ i, w'.cell? ⟨bx, i, none⟩ = #[Value.bool pw, .int .i64 pi, .int .u64 pu][i]?) (exact fx) (first | (go_at_call 10; refine (lawWhole_c _ _).mono ?_; rintro e w' ⟨rfl, hg⟩; (try replace hg := hg.of_drew); replace fx := hg.cells fx (Nat.zero_lt_succ _); replace hG := hG.trans hg; clear hg) | (go_at_call 22; refine (c5 _).mono ?_; rintro e w' ⟨rfl, hg⟩; (try replace hg := hg.of_drew); replace fx := hg.cells fx (Nat.zero_lt_succ _); replace hG := hG.trans hg; clear hg) | (go_at_call 14; refine (awake_c _).mono ?_; rintro e w' ⟨rfl, hg⟩; (try replace hg := hg.of_drew); replace fx := hg.cells fx (Nat.zero_lt_succ _); replace hG := hG.trans hg; clear hg))
      all_goals go_wp2
      all_goals go_ret
      all_goals exact ⟨rfl, hG⟩
theorem numDown_walk (a0 : Int) (a1 : Int) (w0 : (Lit.int .i64 a0).wf = true) (w1 : (Lit.int .i64 a1).wf = true) (w : World) :
    Calls Try.prog 8 #[.int .i64 a0, .int .i64 a1] w fun e w' => e = .returned (.bool true) ∧ Below w.heap.size w w' := by
  obtain ⟨h0, h0'⟩ := bounds_i64 w0
  obtain ⟨h1, h1'⟩ := bounds_i64 w1
  refine Calls.mono (R := fun e w' => e = .returned (.bool true) ∧ Gr w w') ?_ (fun _ _ ⟨h, g⟩ => ⟨h, g.below⟩)
  have c1 := numDiv_c true true a0 0 a1 0
  have c2 := numFloorDiv_c true true a0 0 a1 0 (by omega) (by omega) (by omega) (by omega)
  have eF : flR true a0 0 true a1 0 = floorR a0 a1 := if_pos ⟨rfl, rfl⟩
  rw [eF] at c2
  unfold floorR at c2
  by_cases hb : a1 = 0
  · rw [if_pos hb] at c2
    exact numDown_err a0 a1 11 w (Or.inl ⟨hb, rfl⟩) c1 c2
  · rw [if_neg hb] at c2
    by_cases hl : a0 = -9223372036854775808 ∧ a1 = -1
    · have e : flI a0 a1 = 9223372036854775808 := by rw [hl.1, hl.2]; decide
      rw [e, fitR_out (by decide)] at c2
      exact numDown_err a0 a1 10 w (Or.inr ⟨by simpa using hb, hl.1, hl.2, rfl⟩) c1 c2
    · have hf := fl_fits a0 a1 (by omega) (by omega) hb hl
      rw [fitR_in hf] at c2
      have c3 := numMul_c true true (flI a0 a1) 0 a1 0 hf.1 hf.2 (by omega) (by omega)
      have eM : mulR true (flI a0 a1) 0 true a1 0 = fitR (flI a0 a1 * a1) := if_pos ⟨rfl, rfl⟩
      rw [eM] at c3
      obtain ⟨s1, s2⟩ := flI_spec a0 a1 hb
      have key : (fitR (flI a0 a1 * a1)).e = 0 → fitR (flI a0 a1 * a1) = okW (flI a0 a1 * a1) ∧ -9223372036854775808 ≤ flI a0 a1 * a1 ∧ flI a0 a1 * a1 < 9223372036854775808 := by
        intro h
        by_cases g : -9223372036854775808 ≤ flI a0 a1 * a1 ∧ flI a0 a1 * a1 < 9223372036854775808
        · exact ⟨fitR_in g, g⟩
        · rw [fitR_out g] at h; cases h
      refine numDown_ok a0 a1 (flI a0 a1) _ _ _ _ w ?_ c1 c2 c3 ?_ ?_
      · by_cases h : (fitR (flI a0 a1 * a1)).e = 0
        · exact Or.inr ⟨h, by omega⟩
        · exact Or.inl (by simpa using h)
      · intro hg hpos wv
        obtain ⟨e1, e2, e3⟩ := key hg
        rw [e1]
        have := numLessEq_c true true (flI a0 a1 * a1) 0 a0 0 ⟨⟨e2, e3⟩, by decide, by decide⟩ ⟨⟨by omega, by omega⟩, by decide, by decide⟩ wv
        have e : lessEqN true (flI a0 a1 * a1) 0 true a0 0 = true := by
          have := s1 hpos
          have hle : flI a0 a1 * a1 ≤ a0 := by rw [Int.mul_comm]; exact this.1
          show (cmpI (flI a0 a1 * a1) a0 == -1 || cmpI (flI a0 a1 * a1) a0 == 0) = true
          by_cases h : flI a0 a1 * a1 < a0
          · rw [cmpI_lt h]; rfl
          · rw [cmpI_eq (by omega)]; rfl
        rw [e] at this
        exact this
      · intro hg hneg wv
        obtain ⟨e1, e2, e3⟩ := key hg
        rw [e1]
        have := numLessEq_c true true a0 0 (flI a0 a1 * a1) 0 ⟨⟨by omega, by omega⟩, by decide, by decide⟩ ⟨⟨e2, e3⟩, by decide, by decide⟩ wv
        have e : lessEqN true a0 0 true (flI a0 a1 * a1) 0 = true := by
          have := s2 (by omega)
          have hle : a0 ≤ flI a0 a1 * a1 := by rw [Int.mul_comm]; exact this.1
          show (cmpI a0 (flI a0 a1 * a1) == -1 || cmpI a0 (flI a0 a1 * a1) == 0) = true
          by_cases h : a0 < flI a0 a1 * a1
          · rw [cmpI_lt h]; rfl
          · rw [cmpI_eq (by omega)]; rfl
        rw [e] at this
        exact this
end Go.Proofs.Ytpbcplgpbafjpab.W
