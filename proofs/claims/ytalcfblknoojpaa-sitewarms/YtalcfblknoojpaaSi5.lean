/- Package site: New, Tell; the reference's On and Force, whole. -/
import Derived.Test.YtalcfblknoojpaaSi4
namespace Go.Proofs.Ytalcfblknoojpaa.W.Si
open Go.ChangeShapes Go.WideShapes Go.RowKit
set_option linter.unusedVariables false
set_option linter.unusedSimpArgs false
theorem SvS_mk {W : World} {t : TypeId} {b : Nat} {a : Int} {s s' : Sp} (h : SvS W t b a s') (e : s = s') : SvS W t b a s := e ▸ h
section
variable {W : World} {rb sb : Nat} {a n : Int} {s : Sp}
theorem refOn_c (o : Ok n s) (hn : n + 1 ≤ 1000000000) (h : SvS W 29 rb a s) (q : Int) : Calls Try.prog 11 #[.pointer (some ⟨rb, 0, none⟩), .int .i64 q] W fun e w' => e = .returned (.int .i64 (onA s q)) ∧ SvS w' 29 rb a (onS s q) ∧ Upd (· = rb) W w' := by
  obtain ⟨F, G, A, L, K, R⟩ := s
  obtain ⟨f, g, fa, fl, r, k, hs, fu⟩ := o
  simp only at f g fa fl r k hs fu
  have h' : Sv W 29 rb a F G A L K R := h
  clear h
  have G1 : G ≤ 1000000000 := by omega
  have A1 : A ≤ 1000000000 := by omega
  have L1 : L ≤ 1000000000 := by omega
  by_cases hq : q = 1 ∨ q = 2
  · have key : ∀ v : Int, v = 1 ∨ v = 2 → True := fun _ _ => trivial
    clear key
    rcases hq with hq | hq <;> subst hq
    · by_cases c1 : F = 0
      · subst c1
        by_cases c2 : R = 0
        · subst c2
          refine (ref_none1 h' rfl rfl rfl g.1 G1 fa.1 A1 fl.1 L1).mono ?_
          (rintro e w' ⟨he, hs, hu⟩; refine ⟨he.trans (by simp [onA, pairP]), SvS_mk (s' := ⟨_, _, _, _, _, _⟩) hs ?_, hu⟩)
          simp [onS, onA, pairP, genS, turnS, rowS, failS]
        · by_cases c3 : K = 1
          · subst c3
            have hr : R = 1 ∨ R = 2 ∨ R = 3 := by omega
            rcases hr with hr | hr | hr <;> subst hr
            · refine (ref_one1 h' rfl rfl rfl rfl g.1 G1 fa.1 A1 fl.1 L1).mono ?_
              (rintro e w' ⟨he, hs, hu⟩; refine ⟨he.trans (by simp [onA, pairP]), SvS_mk (s' := ⟨_, _, _, _, _, _⟩) hs ?_, hu⟩)
              simp [onS, onA, pairP, genS, turnS, rowS, failS]
            · by_cases c4 : L < 4
              · refine (ref_turn1 h' rfl rfl rfl rfl c4 g.1 G1 fa.1 A1 fl.1 L1).mono ?_
                (rintro e w' ⟨he, hs, hu⟩; refine ⟨he.trans (by simp [onA, pairP]), SvS_mk (s' := ⟨_, _, _, _, _, _⟩) hs ?_, hu⟩)
                simp [onS, onA, pairP, genS, turnS, rowS, failS, c4]
              · refine (ref_full1 h' rfl rfl rfl rfl c4 g.1 G1 fa.1 A1 fl.1 L1).mono ?_
                (rintro e w' ⟨he, hs, hu⟩; refine ⟨he.trans (by simp [onA, pairP]), SvS_mk (s' := ⟨_, _, _, _, _, _⟩) hs ?_, hu⟩)
                simp [onS, onA, pairP, genS, turnS, rowS, failS, c4]
            · have c4 : ¬ L < 4 := by have := fu rfl; omega
              refine (ref_three1 h' rfl rfl rfl rfl c4 g.1 G1 fa.1 A1 fl.1 L1).mono ?_
              (rintro e w' ⟨he, hs, hu⟩; refine ⟨he.trans (by simp [onA, pairP]), SvS_mk (s' := ⟨_, _, _, _, _, _⟩) hs ?_, hu⟩)
              simp [onS, onA, pairP, genS, turnS, rowS, failS, c4]
          · refine (ref_other1 h' rfl rfl (by omega) (by simp [c3]) g.1 G1 fa.1 A1 fl.1 L1).mono ?_
            (rintro e w' ⟨he, hs, hu⟩; refine ⟨he.trans (by simp [onA, pairP]), SvS_mk (s' := ⟨_, _, _, _, _, _⟩) hs ?_, hu⟩)
            simp [onS, onA, pairP, genS, turnS, rowS, failS, c3]
      · rcases (show F = 1 ∨ F = 2 by omega) with e | e <;> subst e
        · refine (ref_fast1 h' rfl rfl g.1 G1 fa.1 A1 fl.1 L1).mono ?_
          (rintro e w' ⟨he, hs, hu⟩; refine ⟨he.trans (by simp [onA, pairP]), SvS_mk (s' := ⟨_, _, _, _, _, _⟩) hs ?_, hu⟩)
          simp [onS, onA, pairP, genS, turnS, rowS, failS]
        · refine (ref_fail1 h' rfl rfl g.1 G1 fa.1 A1 fl.1 L1).mono ?_
          (rintro e w' ⟨he, hs, hu⟩; refine ⟨he.trans (by simp [onA, pairP]), SvS_mk (s' := ⟨_, _, _, _, _, _⟩) hs ?_, hu⟩)
          simp [onS, onA, pairP, genS, turnS, rowS, failS]
    · by_cases c1 : F = 0
      · subst c1
        by_cases c2 : R = 0
        · subst c2
          refine (ref_none2 h' rfl rfl rfl g.1 G1 fa.1 A1 fl.1 L1).mono ?_
          (rintro e w' ⟨he, hs, hu⟩; refine ⟨he.trans (by simp [onA, pairP]), SvS_mk (s' := ⟨_, _, _, _, _, _⟩) hs ?_, hu⟩)
          simp [onS, onA, pairP, genS, turnS, rowS, failS]
        · by_cases c3 : K = 2
          · subst c3
            have hr : R = 1 ∨ R = 2 ∨ R = 3 := by omega
            rcases hr with hr | hr | hr <;> subst hr
            · refine (ref_one2 h' rfl rfl rfl rfl g.1 G1 fa.1 A1 fl.1 L1).mono ?_
              (rintro e w' ⟨he, hs, hu⟩; refine ⟨he.trans (by simp [onA, pairP]), SvS_mk (s' := ⟨_, _, _, _, _, _⟩) hs ?_, hu⟩)
              simp [onS, onA, pairP, genS, turnS, rowS, failS]
            · by_cases c4 : L < 4
              · refine (ref_turn2 h' rfl rfl rfl rfl c4 g.1 G1 fa.1 A1 fl.1 L1).mono ?_
                (rintro e w' ⟨he, hs, hu⟩; refine ⟨he.trans (by simp [onA, pairP]), SvS_mk (s' := ⟨_, _, _, _, _, _⟩) hs ?_, hu⟩)
                simp [onS, onA, pairP, genS, turnS, rowS, failS, c4]
              · refine (ref_full2 h' rfl rfl rfl rfl c4 g.1 G1 fa.1 A1 fl.1 L1).mono ?_
                (rintro e w' ⟨he, hs, hu⟩; refine ⟨he.trans (by simp [onA, pairP]), SvS_mk (s' := ⟨_, _, _, _, _, _⟩) hs ?_, hu⟩)
                simp [onS, onA, pairP, genS, turnS, rowS, failS, c4]
            · have c4 : ¬ L < 4 := by have := fu rfl; omega
              refine (ref_three2 h' rfl rfl rfl rfl c4 g.1 G1 fa.1 A1 fl.1 L1).mono ?_
              (rintro e w' ⟨he, hs, hu⟩; refine ⟨he.trans (by simp [onA, pairP]), SvS_mk (s' := ⟨_, _, _, _, _, _⟩) hs ?_, hu⟩)
              simp [onS, onA, pairP, genS, turnS, rowS, failS, c4]
          · refine (ref_other2 h' rfl rfl (by omega) (by simp [c3]) g.1 G1 fa.1 A1 fl.1 L1).mono ?_
            (rintro e w' ⟨he, hs, hu⟩; refine ⟨he.trans (by simp [onA, pairP]), SvS_mk (s' := ⟨_, _, _, _, _, _⟩) hs ?_, hu⟩)
            simp [onS, onA, pairP, genS, turnS, rowS, failS, c3]
      · rcases (show F = 1 ∨ F = 2 by omega) with e | e <;> subst e
        · refine (ref_fail2 h' rfl rfl g.1 G1 fa.1 A1 fl.1 L1).mono ?_
          (rintro e w' ⟨he, hs, hu⟩; refine ⟨he.trans (by simp [onA, pairP]), SvS_mk (s' := ⟨_, _, _, _, _, _⟩) hs ?_, hu⟩)
          simp [onS, onA, pairP, genS, turnS, rowS, failS]
        · refine (ref_fast2 h' rfl rfl g.1 G1 fa.1 A1 fl.1 L1).mono ?_
          (rintro e w' ⟨he, hs, hu⟩; refine ⟨he.trans (by simp [onA, pairP]), SvS_mk (s' := ⟨_, _, _, _, _, _⟩) hs ?_, hu⟩)
          simp [onS, onA, pairP, genS, turnS, rowS, failS]
  · have q1 : (q != 1) = true := by simp; omega
    have q2 : (q != 2) = true := by simp; omega
    have hp := pair_no hq
    rcases f with e | e | e <;> subst e
    · refine (ref_zero0 h' rfl q1 q2 g.1 G1 fa.1 A1 fl.1 L1).mono ?_
      rintro e w' ⟨he, hs, hu⟩
      exact ⟨he.trans (by simp [onA]), SvS_mk (s' := ⟨_, _, _, _, _, _⟩) hs (by simp [onS, genS, turnS, rowS, failS, hp]), hu⟩
    · refine (ref_zero1 h' rfl q1 q2 g.1 G1 fa.1 A1 fl.1 L1).mono ?_
      rintro e w' ⟨he, hs, hu⟩
      exact ⟨he.trans (by simp [onA, hp]), SvS_mk (s' := ⟨_, _, _, _, _, _⟩) hs (by simp [onS, genS, turnS, rowS, failS, hp]), hu⟩
    · refine (ref_zero2 h' rfl q1 q2 g.1 G1 fa.1 A1 fl.1 L1).mono ?_
      rintro e w' ⟨he, hs, hu⟩
      exact ⟨he.trans (by simp [onA, hp]), SvS_mk (s' := ⟨_, _, _, _, _, _⟩) hs (by simp [onS, genS, turnS, rowS, failS, hp]), hu⟩
theorem refForce_c (h : SvS W 29 rb a s) (f : Int) : Calls Try.prog 9 #[.pointer (some ⟨rb, 0, none⟩), .int .i64 f] W fun e w' => e = .returned (.int .i64 (forceA f)) ∧ SvS w' 29 rb a (forceS s f) ∧ Upd (· = rb) W w' := by
  unfold forceA forceS
  have h' : Sv W 29 rb a s.form s.gen s.fast s.fails s.kind s.row := h
  by_cases c1 : f < 0
  · rw [if_pos (.inl c1), if_pos (.inl c1)]
    have H := hid h
    clear h h'
    go_enter Try.func9, Try.ntmps9
    go_wp2
    go_ret
    exact ⟨rfl, H.out, Upd.refl _ _⟩
  · by_cases c2 : f > 2
    · rw [if_pos (.inr c2), if_pos (.inr c2)]
      have H := hid h
      clear h h'
      go_enter Try.func9, Try.ntmps9
      go_wp2
      go_ret
      exact ⟨rfl, H.out, Upd.refl _ _⟩
    · rw [if_neg (by omega), if_neg (by omega)]
      show Calls _ _ _ _ fun e w' => e = .returned (.int .i64 0) ∧ Sv w' 29 rb a f s.gen s.fast s.fails s.kind 0 ∧ Upd (· = rb) W w'
      have c := h'.cells
      have z := h'.thaw
      have HH := hid ((h'.set1 f).set6 0)
      have HU := hid (((Upd.refl (· = rb) W).one 1 (.int .i64 f)).one 6 (.int .i64 0))
      clear h h'
      generalize s.form = F at *
      generalize s.gen = G at *
      generalize s.fast = A at *
      generalize s.fails = L at *
      generalize s.kind = K at *
      generalize s.row = R at *
      go_enter Try.func9, Try.ntmps9
      go_wp2
      go_ret
      exact ⟨rfl, HH.out, HU.out⟩
theorem new_c (x : Int) (w : World) : Calls Try.prog 6 #[.int .i64 x] w fun e w' => e = .returned (.pointer (some ⟨w.heap.size, 0, none⟩)) ∧ SvS w' 43 w.heap.size x (norm new) ∧ Below w.heap.size w w' ∧ w'.heap.size = w.heap.size + 1 := by
  go_enter Try.func6, Try.ntmps6
  go_wp2
  go_ret
  exact ⟨rfl, heap_alloc_new w _, (Below.refl _ w).alloc (Nat.le_refl _) _, by simp⟩
theorem siteT : (Try.prog.underlying 27).map (fun d => match d with | .struct _ | .array _ _ => true | _ => false) = some true := by kernel_rfl
theorem siteSz : (Try.prog.info? 27).map (·.size) = some 5 := by kernel_rfl
theorem site_ret {fn : Func} {p : Tmp} (h : fn.results = #[.cell p 27]) (tmps : Array Value) (w : World) (gb : Nat) (v0 v1 v2 v3 v4 : Value) (fr : Nat × Nat) (hp : tmps.getD p undef = .pointer (some ⟨gb, 0, none⟩)) (hg : w.heap[gb]? = some (.cells #[v0, v1, v2, v3, v4] 27 fr)) : (results fn tmps).run Try.prog w = .ok (.agg #[v0, v1, v2, v3, v4]) w := by
  have ht := siteT
  cases hu : Try.prog.underlying 27 with
  | none => rw [hu] at ht; cases ht
  | some d =>
    rw [hu] at ht
    simp only [Option.map_some, Option.some.injEq] at ht
    refine results_cell_row h tmps w gb _ _ fr d hp hg hu ?_ (by rw [siteSz]; rfl)
    cases d <;> first | rfl | exact ht
/-- what is told, as a value -/
def told (a : Int) (s : Sp) : Value := .agg #[.int .i64 a, .int .i64 s.form, .int .i64 s.gen, .int .i64 s.fast, .int .i64 s.fails]
theorem tell_c {t : Sp} (h : SvS W 43 sb a t) : Calls Try.prog 7 #[.pointer (some ⟨sb, 0, none⟩)] W fun e w' => e = .returned (told a t) ∧ Below W.heap.size W w' := by
  have h' : Sv W 43 sb a t.form t.gen t.fast t.fails t.kind t.row := h
  have c := h'.cells
  have hlt := h'.lt
  unfold told
  clear h h'
  generalize t.form = F at *
  generalize t.gen = G at *
  generalize t.fast = A at *
  generalize t.fails = L at *
  go_enter Try.func7, Try.ntmps7
  go_wp2
  refine bodyPost_ret (site_ret rfl _ _ W.heap.size _ _ _ _ _ (0, 0) rfl (heap_alloc_new W _)) rfl ?_
  exact ⟨rfl, (Below.refl _ W).alloc (Nat.le_refl _) _⟩
end
end Go.Proofs.Ytalcfblknoojpaa.W.Si
