/- Package site: New, On, Force, Tell; the reference's On and Force. -/
import Derived.Test.YtalcfblknoojpaaSi2
namespace Go.Proofs.Ytalcfblknoojpaa.W.Si
open Go.ChangeShapes Go.WideShapes Go.RowKit
set_option linter.unusedVariables false
theorem fast_yes {f : Int} (h : f = 1 ∨ f = 2) (w : World) : Calls Try.prog 15 #[.int .i64 f] w fun e w' => e = .returned (.bool true) ∧ w' = w := by
  have := isFast_c f w
  rwa [show (f == 1 || f == 2) = true by rcases h with rfl | rfl <;> rfl] at this
theorem fast_no {f : Int} (h : ¬ (f = 1 ∨ f = 2)) (w : World) : Calls Try.prog 15 #[.int .i64 f] w fun e w' => e = .returned (.bool false) ∧ w' = w := by
  have := isFast_c f w
  rwa [show (f == 1 || f == 2) = false by simp; omega] at this
theorem pair_no {q : Int} (h : ¬ (q = 1 ∨ q = 2)) : pairP q = 0 := if_neg h
section
variable {W : World} {sb : Nat} {a n : Int} {s : Sp}
set_option maxHeartbeats 1000000 in
theorem on_fast (h : SvS W 43 sb a (norm s)) (hq : s.form = 1 ∨ s.form = 2) (f0 : 0 ≤ s.fast) (f1 : s.fast ≤ 1000000000) : Calls Try.prog 10 #[.pointer (some ⟨sb, 0, none⟩), .int .i64 s.form] W fun e w' => e = .returned (.int .i64 s.form) ∧ SvS w' 43 sb a (norm { s with fast := s.fast + 1 }) ∧ Upd (· = sb) W w' := by
  have iq := fast_yes hq
  have h' : Sv W 43 sb a s.form s.gen s.fast s.fails (norm s).kind s.row := h
  show Calls _ _ _ _ fun e w' => e = .returned (.int .i64 s.form) ∧ Sv w' 43 sb a s.form s.gen (s.fast + 1) s.fails (norm s).kind s.row ∧ Upd (· = sb) W w'
  have wf : IntKind.i64.wrap (s.fast + 1) = s.fast + 1 := by rw [IntKind.wrap_i64]; omega
  generalize (norm s).kind = K at *
  generalize s.form = F at *
  generalize s.fast = A at *
  generalize s.fails = L at *
  generalize s.gen = G at *
  generalize s.row = R at *
  have c := h'.cells
  have z := h'.thaw
  have HH := hid (h'.set3 (A + 1))
  have HU := hid ((Upd.refl (· = sb) W).one 3 (.int .i64 (A + 1)))
  have iF := iq
  clear h h' f0 f1 hq
  go_enter Try.func10, Try.ntmps10
  go_wp2_with (go_at_call 15; first | ((with_reducible refine (iq _).mono ?_); rintro e w' ⟨rfl, hw⟩; (have hw' := hw.symm); subst hw'; clear hw) | ((with_reducible refine (iF _).mono ?_); rintro e w' ⟨rfl, hw⟩; (have hw' := hw.symm); subst hw'; clear hw))
  go_ret
  exact ⟨rfl, HH.out, HU.out⟩
set_option maxHeartbeats 1000000 in
theorem on_gen (o : Ok n s) (hn : n ≤ 1000000000) (h : SvS W 43 sb a (norm s)) (hf : s.form = 0) (q : Int) : Calls Try.prog 10 #[.pointer (some ⟨sb, 0, none⟩), .int .i64 q] W fun e w' => e = .returned (.int .i64 0) ∧ SvS w' 43 sb a (norm (genS s (pairP q))) ∧ Upd (· = sb) W w' := by
  have cG := onGeneric_c o hn h (pairP q) (pair_cases q)
  have iF := fast_no (f := 0) (by omega)
  have h' : Sv W 43 sb a s.form s.gen s.fast s.fails (norm s).kind s.row := h
  rw [hf] at h'
  have c := h'.cells
  clear h h' o hn hf
  generalize norm (genS s (pairP q)) = S' at *
  by_cases hq : q = 1 ∨ q = 2
  · have iq := fast_yes hq
    rw [pair_of hq] at cG
    clear hq
    go_enter Try.func10, Try.ntmps10
    go_wp2_with (first | (go_at_call 15; first | ((with_reducible refine (iq _).mono ?_); rintro e w' ⟨rfl, hw⟩; (have hw' := hw.symm); subst hw'; clear hw) | ((with_reducible refine (iF _).mono ?_); rintro e w' ⟨rfl, hw⟩; (have hw' := hw.symm); subst hw'; clear hw)) | (go_at_call 16; (with_reducible refine cG.mono ?_); rintro e w1 ⟨rfl, h1, u1⟩))
    go_ret
    exact ⟨rfl, h1, u1⟩
  · have iq := fast_no hq
    rw [pair_no hq] at cG
    clear hq
    go_enter Try.func10, Try.ntmps10
    go_wp2_with (first | (go_at_call 15; first | ((with_reducible refine (iq _).mono ?_); rintro e w' ⟨rfl, hw⟩; (have hw' := hw.symm); subst hw'; clear hw) | ((with_reducible refine (iF _).mono ?_); rintro e w' ⟨rfl, hw⟩; (have hw' := hw.symm); subst hw'; clear hw)) | (go_at_call 16; (with_reducible refine cG.mono ?_); rintro e w1 ⟨rfl, h1, u1⟩))
    go_ret
    exact ⟨rfl, h1, u1⟩
set_option maxHeartbeats 1000000 in
theorem on_fail (o : Ok n s) (hn : n + 1 ≤ 1000000000) (h : SvS W 43 sb a (norm s)) (hf : s.form = 1 ∨ s.form = 2) (q : Int) (hne : ¬ s.form = pairP q) : Calls Try.prog 10 #[.pointer (some ⟨sb, 0, none⟩), .int .i64 q] W fun e w' => e = .returned (.int .i64 0) ∧ SvS w' 43 sb a (norm (genS (failS s) (pairP q))) ∧ Upd (· = sb) W w' := by
  obtain ⟨o1, _⟩ := ok_fail o (by have := o.fails; omega)
  have cG : ∀ w, SvS w 43 sb a (norm (failS s)) → _ := fun w hw => onGeneric_c o1 hn hw (pairP q) (pair_cases q)
  have iF := fast_yes hf
  have h' : Sv W 43 sb a s.form s.gen s.fast s.fails (norm s).kind s.row := h
  have wf : IntKind.i64.wrap (s.fails + 1) = s.fails + 1 := by have := o.fails; rw [IntKind.wrap_i64]; omega
  have h2 := h'.set4 (s.fails + 1)
  have u2 := (Upd.refl (· = sb) W).one 4 (.int .i64 (s.fails + 1))
  have cB := become_c h2 0
  have c := h'.cells
  have z := h'.thaw
  have e1 : ∀ w, Sv w 43 sb a 0 s.gen s.fast (s.fails + 1) 0 0 → SvS w 43 sb a (norm (failS s)) := by intro w hw; exact hw
  have E1 := hid e1
  have HF := hid hf
  clear h h' o hn hf o1 e1
  generalize norm (genS (failS s) (pairP q)) = S' at *
  generalize norm (failS s) = S1 at *
  generalize s.form = F at *
  generalize s.fast = A at *
  generalize s.fails = L at *
  generalize s.gen = G at *
  generalize s.row = R at *
  generalize (norm s).kind = K at *
  have U2 := hid u2
  clear u2 h2
  by_cases hq : q = 1 ∨ q = 2
  · have iq := fast_yes hq
    rw [pair_of hq] at cG hne
    have hne' : (q == F) = false := by simp; omega
    clear hq hne
    go_enter Try.func10, Try.ntmps10
    go_wp2_with (first | (go_at_call 15; first | ((with_reducible refine (iq _).mono ?_); rintro e w' ⟨rfl, hw⟩; (have hw' := hw.symm); subst hw'; clear hw) | ((with_reducible refine (iF _).mono ?_); rintro e w' ⟨rfl, hw⟩; (have hw' := hw.symm); subst hw'; clear hw)) | (go_at_call 14; (with_reducible refine cB.mono ?_); rintro e w1 ⟨rfl, h1, u1⟩) | (go_at_call 16; (with_reducible refine (cG w1 (E1.out w1 h1)).mono ?_); rintro e w2 ⟨rfl, h2, u2⟩))
    go_ret
    exact ⟨rfl, h2, (U2.out.trans u1).trans u2⟩
  · have iq := fast_no hq
    rw [pair_no hq] at cG hne
    clear hq hne
    rcases HF.out with e | e <;> subst e
    all_goals go_enter Try.func10, Try.ntmps10
    all_goals go_wp2_with (first | (go_at_call 15; first | ((with_reducible refine (iq _).mono ?_); rintro e w' ⟨rfl, hw⟩; (have hw' := hw.symm); subst hw'; clear hw) | ((with_reducible refine (iF _).mono ?_); rintro e w' ⟨rfl, hw⟩; (have hw' := hw.symm); subst hw'; clear hw)) | (go_at_call 14; (with_reducible refine cB.mono ?_); rintro e w1 ⟨rfl, h1, u1⟩) | (go_at_call 16; (with_reducible refine (cG w1 (E1.out w1 h1)).mono ?_); rintro e w2 ⟨rfl, h2, u2⟩))
    all_goals go_ret
    all_goals exact ⟨rfl, h2, (U2.out.trans u1).trans u2⟩
theorem on_c (o : Ok n s) (hn : n + 1 ≤ 1000000000) (h : SvS W 43 sb a (norm s)) (q : Int) : Calls Try.prog 10 #[.pointer (some ⟨sb, 0, none⟩), .int .i64 q] W fun e w' => e = .returned (.int .i64 (onA s q)) ∧ SvS w' 43 sb a (norm (onS s q)) ∧ Upd (· = sb) W w' := by
  have hfm := o.form
  have hfa := o.fast
  unfold onA onS
  by_cases c1 : s.form ≠ 0 ∧ s.form = pairP q
  · rw [if_pos c1, if_pos c1]
    have hq : q = s.form := by
      have h2 := c1.2
      unfold pairP at h2
      split at h2
      · exact h2.symm
      · exact absurd h2 c1.1
    rw [hq]
    exact on_fast h (by omega) hfa.1 (by omega)
  · rw [if_neg c1, if_neg c1]
    by_cases c2 : s.form ≠ 0
    · rw [if_pos c2]
      exact on_fail o hn h (by omega) q (by omega)
    · rw [if_neg c2]
      exact on_gen o (by omega) h (by omega) q
/-- a form that may not be -/
theorem isForm_no {f : Int} (hf : f < 0 ∨ 2 < f) (w : World) : Calls Try.prog 13 #[.int .i64 f] w fun e w' => e = .returned (.bool false) ∧ w' = w := by
  have iq := fast_no (f := f) (by omega)
  have iF := iq
  have c0 : (f == 0) = false := by simp; omega
  clear hf
  go_enter Try.func13, Try.ntmps13
  go_wp2_with (go_at_call 15; first | ((with_reducible refine (iq _).mono ?_); rintro e w' ⟨rfl, hw⟩; (have hw' := hw.symm); subst hw'; clear hw) | ((with_reducible refine (iF _).mono ?_); rintro e w' ⟨rfl, hw⟩; (have hw' := hw.symm); subst hw'; clear hw))
  go_ret
  exact ⟨rfl, rfl⟩
/-- a form that may be -/
theorem isForm_yes {f : Int} (hf : f = 0 ∨ f = 1 ∨ f = 2) (w : World) : Calls Try.prog 13 #[.int .i64 f] w fun e w' => e = .returned (.bool true) ∧ w' = w := by
  by_cases c2 : f = 0
  · subst c2
    clear hf
    go_enter Try.func13, Try.ntmps13
    go_wp2
    go_ret
    exact ⟨rfl, rfl⟩
  · have iq := fast_yes (f := f) (by omega)
    have iF := iq
    have c0 : (f == 0) = false := by simp; omega
    clear hf c2
    go_enter Try.func13, Try.ntmps13
    go_wp2_with (go_at_call 15; first | ((with_reducible refine (iq _).mono ?_); rintro e w' ⟨rfl, hw⟩; (have hw' := hw.symm); subst hw'; clear hw) | ((with_reducible refine (iF _).mono ?_); rintro e w' ⟨rfl, hw⟩; (have hw' := hw.symm); subst hw'; clear hw))
    go_ret
    exact ⟨rfl, rfl⟩
/-- by isForm -/
theorem force_c (h : SvS W 43 sb a (norm s)) (f : Int) : Calls Try.prog 8 #[.pointer (some ⟨sb, 0, none⟩), .int .i64 f] W fun e w' => e = .returned (.int .i64 (forceA f)) ∧ SvS w' 43 sb a (norm (forceS s f)) ∧ Upd (· = sb) W w' := by
  unfold forceA forceS
  by_cases c1 : f < 0 ∨ 2 < f
  · rw [if_pos c1, if_pos c1]
    have iM := fun w => isForm_no c1 w
    have H := hid h
    clear h c1
    go_enter Try.func8, Try.ntmps8
    go_wp2_with (go_at_call 13; (with_reducible refine (iM _).mono ?_); rintro e w' ⟨rfl, hw⟩; (have hw' := hw.symm); subst hw'; clear hw)
    go_ret
    exact ⟨rfl, H.out, Upd.refl _ _⟩
  · rw [if_neg c1, if_neg c1]
    have h' : Sv W 43 sb a s.form s.gen s.fast s.fails (norm s).kind s.row := h
    have cB := become_c h' f
    have iM := fun w => isForm_yes (f := f) (by omega) w
    clear c1
    go_enter Try.func8, Try.ntmps8
    go_wp2_with (first | (go_at_call 13; (with_reducible refine (iM _).mono ?_); rintro e w' ⟨rfl, hw⟩; (have hw' := hw.symm); subst hw'; clear hw) | (go_at_call 14; (with_reducible refine cB.mono ?_); rintro e w1 ⟨rfl, h1, u1⟩))
    go_ret
    exact ⟨rfl, h1, u1⟩
end
end Go.Proofs.Ytalcfblknoojpaa.W.Si
