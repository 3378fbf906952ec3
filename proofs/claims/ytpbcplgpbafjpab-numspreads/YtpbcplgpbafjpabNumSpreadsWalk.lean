/- The walk of the statement NumSpreads: it returns true at every three whole numbers. -/
import Derived.Test.YtpbcplgpbafjpabNumAw
import Derived.Test.YtpbcplgpbafjpabNumX
import Derived.OpenShut
import Derived.RowKit3
import Derived.Deep.DeepCutAuto
namespace Go.Proofs.Ytpbcplgpbafjpab.W
open Go.ChangeShapes Go.WideShapes Go.RowKit
set_option maxRecDepth 100000 in
set_option maxHeartbeats 8000000 in
theorem numSpreads_core (a b c : Int) (sw xw pw qw yw : Bool) (si su e xi xu f pi pu g qi qu h yi yu z : Int) (w : World)
    (c1 : ∀ w, Calls Try.prog 9 #[.agg #[.bool true, .int .i64 b, .int .u64 0], .agg #[.bool true, .int .i64 c, .int .u64 0]] w fun o w' => o = .returned (.tuple #[.agg #[.bool sw, .int .i64 si, .int .u64 su], .int .i64 e]) ∧ Gr w w')
    (c2 : ∀ w, Calls Try.prog 12 #[.agg #[.bool true, .int .i64 a, .int .u64 0], .agg #[.bool sw, .int .i64 si, .int .u64 su]] w fun o w' => o = .returned (.tuple #[.agg #[.bool xw, .int .i64 xi, .int .u64 xu], .int .i64 f]) ∧ Gr w w')
    (c3 : ∀ w, Calls Try.prog 12 #[.agg #[.bool true, .int .i64 a, .int .u64 0], .agg #[.bool true, .int .i64 b, .int .u64 0]] w fun o w' => o = .returned (.tuple #[.agg #[.bool pw, .int .i64 pi, .int .u64 pu], .int .i64 g]) ∧ Gr w w')
    (c4 : ∀ w, Calls Try.prog 12 #[.agg #[.bool true, .int .i64 a, .int .u64 0], .agg #[.bool true, .int .i64 c, .int .u64 0]] w fun o w' => o = .returned (.tuple #[.agg #[.bool qw, .int .i64 qi, .int .u64 qu], .int .i64 h]) ∧ Gr w w')
    (c5 : ∀ w, Calls Try.prog 9 #[.agg #[.bool pw, .int .i64 pi, .int .u64 pu], .agg #[.bool qw, .int .i64 qi, .int .u64 qu]] w fun o w' => o = .returned (.tuple #[.agg #[.bool yw, .int .i64 yi, .int .u64 yu], .int .i64 z]) ∧ Gr w w')
    (hC : (e != 0) = true ∨ (e = 0 ∧ (f != 0) = true) ∨ (e = 0 ∧ f = 0 ∧ (g != 0) = true) ∨ (e = 0 ∧ f = 0 ∧ g = 0 ∧ (h != 0) = true) ∨ (e = 0 ∧ f = 0 ∧ g = 0 ∧ h = 0 ∧ (z != 0) = true) ∨ (e = 0 ∧ f = 0 ∧ g = 0 ∧ h = 0 ∧ z = 0 ∧ xw = yw ∧ xi = yi ∧ xu = yu)) :
    Calls Try.prog 7 #[.int .i64 a, .int .i64 b, .int .i64 c] w fun e w' => e = .returned (.bool true) ∧ Gr w w' := by
  have hG := Gr.refl w
  go_enter Try.func7, Try.ntmps7
  go_wp2_with (first | (go_at_call 10; refine (lawWhole_c _ _).mono ?_; rintro e w' ⟨rfl, hg⟩; replace hG := hG.trans hg; clear hg) | (go_at_call 9; with_reducible refine (c1 _).mono ?_; rintro e wS ⟨rfl, hg⟩; replace hG := hG.trans hg; clear hg))
  generalize hW : World.alloc wS _ = W
  have hg := Gr.of_eq hW
  have fs := hg.new (Nat.zero_lt_succ _)
  replace hG := hG.trans hg.of_alloc
  clear hg hW
  go_cut [9, 10] (fun p o wc => ∃ bx, p = .pointer (some ⟨bx, 0, none⟩) ∧ o = .int .i64 f ∧ (∀ i, wc.cell? ⟨bx, i, none⟩ = #[Value.bool xw, .int .i64 xi, .int .u64 xu][i]?) ∧ Gr w wc)
  case first =>
    clear hC c1 c3 c4 c5
    go_region_held3 (fun w' => ∀ i, w'.cell? ⟨wS.heap.size, i, none⟩ = #[Value.bool sw, .int .i64 si, .int .u64 su][i]?) (first | exact fs | exact cells_alloc _ fs (Nat.zero_lt_succ _) | exact far1 lb fs _ _ _) (first | (go_at_call 10; refine (lawWhole_c _ _).mono ?_; rintro e w' ⟨rfl, hg⟩; (first | (have h3 := Gr.one_drew hg (Nat.zero_lt_succ _); have lb := cells_lt fs (Nat.zero_lt_succ _); have hb := hG.size; clear hg; obtain ⟨fx, fz, hg⟩ := h3) | (have h3 := Gr.one hg (Nat.zero_lt_succ _); have lb := cells_lt fs (Nat.zero_lt_succ _); have hb := hG.size; clear hg; obtain ⟨fx, fz, hg⟩ := h3) | (replace hg := hg.of_drew) | skip); (try replace fz := hg.thaw fx (Nat.zero_lt_succ _) fz); (try replace fx := hg.cells fx (Nat.zero_lt_succ _)); replace fs := hg.cells fs (Nat.zero_lt_succ _); replace hG := hG.trans hg; clear hg) | (go_at_call 12; refine (c2 _).mono ?_; rintro e wX ⟨rfl, hg⟩; (first | (have h3 := Gr.one_drew hg (Nat.zero_lt_succ _); have lb := cells_lt fs (Nat.zero_lt_succ _); have hb := hG.size; clear hg; obtain ⟨fx, fz, hg⟩ := h3) | (have h3 := Gr.one hg (Nat.zero_lt_succ _); have lb := cells_lt fs (Nat.zero_lt_succ _); have hb := hG.size; clear hg; obtain ⟨fx, fz, hg⟩ := h3) | (replace hg := hg.of_drew) | skip); (try replace fz := hg.thaw fx (Nat.zero_lt_succ _) fz); (try replace fx := hg.cells fx (Nat.zero_lt_succ _)); replace fs := hg.cells fs (Nat.zero_lt_succ _); replace hG := hG.trans hg; clear hg))
    all_goals go_wp2
    all_goals go_meet
    all_goals first | exact ⟨_, rfl, rfl, fun i => World.cell?_alloc_at _ _ _ i rfl, hG.alloc _⟩ | exact ⟨_, rfl, rfl, stored3 fx _ _ _, hG.store3 hb _ _ _⟩
  case rest =>
    clear fs hG
    obtain ⟨bx, rfl, rfl, fx, hG⟩ := hcut
    rcases hC with h1 | ⟨rfl, h1⟩ | ⟨rfl, rfl, h1⟩ | ⟨rfl, rfl, rfl, h1⟩ | ⟨rfl, rfl, rfl, rfl, h1⟩ | ⟨rfl, rfl, rfl, rfl, rfl, rfl, rfl, rfl⟩
    all_goals
      go_wp2_with (first | (go_at_call 10; refine (lawWhole_c _ _).mono ?_; rintro e w' ⟨rfl, hg⟩; (first | (have fp := hg.new (Nat.zero_lt_succ _); replace hg := hg.of_alloc) | skip); (try replace fx := hg.cells fx (Nat.zero_lt_succ _)); (try replace fp := hg.cells fp (Nat.zero_lt_succ _)); replace hG := hG.trans hg; clear hg) | (go_at_call 12; with_reducible refine (c3 _).mono ?_; rintro e wP ⟨rfl, hg⟩; (try replace fx := hg.cells fx (Nat.zero_lt_succ _)); (try replace fp := hg.cells fp (Nat.zero_lt_succ _)); replace hG := hG.trans hg; clear hg) | (go_at_call 12; with_reducible refine (c4 _).mono ?_; rintro e wQ ⟨rfl, hg⟩; (try replace fx := hg.cells fx (Nat.zero_lt_succ _)); (try replace fp := hg.cells fp (Nat.zero_lt_succ _)); replace hG := hG.trans hg; clear hg; have lp := cells_lt fp (Nat.zero_lt_succ _)) | (go_at_call 9; with_reducible refine (c5 _).mono ?_; rintro e wY ⟨rfl, hg⟩; replace hg := hg.of_alloc; (try replace fx := hg.cells fx (Nat.zero_lt_succ _)); (try replace fp := hg.cells fp (Nat.zero_lt_succ _)); replace hG := hG.trans hg; clear hg; have lx := cells_lt fx (Nat.zero_lt_succ _)) | (go_at_call 14; refine (awake_c _).mono ?_; rintro e w' ⟨rfl, hg⟩; replace hG := hG.trans hg.of_alloc; clear hg))
      go_ret
      exact ⟨rfl, hG⟩
theorem fit_cases (n : Int) : (fitR n = okW n ∧ -9223372036854775808 ≤ n ∧ n < 9223372036854775808) ∨ fitR n = bad 10 := by
  by_cases h : -9223372036854775808 ≤ n ∧ n < 9223372036854775808
  · exact Or.inl ⟨fitR_in h, h⟩
  · exact Or.inr (fitR_out h)
theorem fit_in (n : Int) : -9223372036854775808 ≤ (fitR n).i ∧ (fitR n).i < 9223372036854775808 := by
  rcases fit_cases n with ⟨h, h1⟩ | h <;> rw [h]
  · exact h1
  · exact ⟨by decide, by decide⟩
theorem numSpreads_walk (a0 : Int) (a1 : Int) (a2 : Int) (w0 : (Lit.int .i64 a0).wf = true) (w1 : (Lit.int .i64 a1).wf = true) (w2 : (Lit.int .i64 a2).wf = true) (w : World) :
    Calls Try.prog 7 #[.int .i64 a0, .int .i64 a1, .int .i64 a2] w fun e w' => e = .returned (.bool true) ∧ Below w.heap.size w w' := by
  obtain ⟨h0, h0'⟩ := bounds_i64 w0
  obtain ⟨h1, h1'⟩ := bounds_i64 w1
  obtain ⟨h2, h2'⟩ := bounds_i64 w2
  refine Calls.mono (R := fun e w' => e = .returned (.bool true) ∧ Gr w w') ?_ (fun _ _ ⟨h, g⟩ => ⟨h, g.below⟩)
  have eA : addR true a1 0 true a2 0 = fitR (a1 + a2) := if_pos ⟨rfl, rfl⟩
  have eP : mulR true a0 0 true a1 0 = fitR (a0 * a1) := if_pos ⟨rfl, rfl⟩
  have eQ : mulR true a0 0 true a2 0 = fitR (a0 * a2) := if_pos ⟨rfl, rfl⟩
  have c1 := numAdd_c true true a1 0 a2 0 (by omega) (by omega) (by omega) (by omega)
  have c3 := numMul_c true true a0 0 a1 0 (by omega) (by omega) (by omega) (by omega)
  have c4 := numMul_c true true a0 0 a2 0 (by omega) (by omega) (by omega) (by omega)
  rw [eA] at c1
  rw [eP] at c3
  rw [eQ] at c4
  have i1 := fit_in (a1 + a2)
  have i3 := fit_in (a0 * a1)
  have i4 := fit_in (a0 * a2)
  have c2 := numMul_c true (fitR (a1 + a2)).w a0 0 (fitR (a1 + a2)).i (fitR (a1 + a2)).u (by omega) (by omega) i1.1 i1.2
  have c5 := numAdd_c (fitR (a0 * a1)).w (fitR (a0 * a2)).w (fitR (a0 * a1)).i (fitR (a0 * a1)).u (fitR (a0 * a2)).i (fitR (a0 * a2)).u i3.1 i3.2 i4.1 i4.2
  refine numSpreads_core a0 a1 a2 _ _ _ _ _ _ _ _ _ _ _ _ _ _ _ _ _ _ _ _ w c1 c2 c3 c4 c5 ?_
  rcases fit_cases (a1 + a2) with ⟨e1, -⟩ | e1
  · rcases fit_cases (a0 * a1) with ⟨e3, -⟩ | e3
    · rcases fit_cases (a0 * a2) with ⟨e4, -⟩ | e4
      · have eX : mulR true a0 0 (fitR (a1 + a2)).w (fitR (a1 + a2)).i (fitR (a1 + a2)).u = fitR (a0 * (a1 + a2)) := by rw [e1]; exact if_pos ⟨rfl, rfl⟩
        have eY : addR (fitR (a0 * a1)).w (fitR (a0 * a1)).i (fitR (a0 * a1)).u (fitR (a0 * a2)).w (fitR (a0 * a2)).i (fitR (a0 * a2)).u = fitR (a0 * a1 + a0 * a2) := by rw [e3, e4]; exact if_pos ⟨rfl, rfl⟩
        rw [eX, eY, e1, e3, e4, Int.mul_add]
        rcases fit_cases (a0 * a1 + a0 * a2) with ⟨e5, -⟩ | e5
        · rw [e5]; exact Or.inr (Or.inr (Or.inr (Or.inr (Or.inr ⟨rfl, rfl, rfl, rfl, rfl, rfl, rfl, rfl⟩))))
        · rw [e5]; exact Or.inr (Or.inl ⟨rfl, rfl⟩)
      · by_cases hx : (mulR true a0 0 (fitR (a1 + a2)).w (fitR (a1 + a2)).i (fitR (a1 + a2)).u).e = 0
        · exact Or.inr (Or.inr (Or.inr (Or.inl ⟨by rw [e1]; rfl, hx, by rw [e3]; rfl, by rw [e4]; rfl⟩)))
        · exact Or.inr (Or.inl ⟨by rw [e1]; rfl, by simpa using hx⟩)
    · by_cases hx : (mulR true a0 0 (fitR (a1 + a2)).w (fitR (a1 + a2)).i (fitR (a1 + a2)).u).e = 0
      · exact Or.inr (Or.inr (Or.inl ⟨by rw [e1]; rfl, hx, by rw [e3]; rfl⟩))
      · exact Or.inr (Or.inl ⟨by rw [e1]; rfl, by simpa using hx⟩)
  · exact Or.inl (by rw [e1]; rfl)
end Go.Proofs.Ytpbcplgpbafjpab.W
