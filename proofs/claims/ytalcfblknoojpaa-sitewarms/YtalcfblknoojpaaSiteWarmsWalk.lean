/- SiteWarms: the walk. -/
import Derived.Test.YtalcfblknoojpaaSi7
namespace Go.Proofs.Ytalcfblknoojpaa.W
open Go.ChangeShapes Go.WideShapes Go.RowKit Si
set_option linter.unusedVariables false
namespace Sw
theorem bad (o : Option Addr) (l c : Nat) (k n : Int) (h : 500 < l ∨ ¬ (k = 1 ∨ k = 2) ∨ n < 0 ∨ 100 < n) (w : World) : Calls Try.prog 4 #[.slice o l c, .int .i64 k, .int .i64 n] w fun e w' => e = .returned (.bool true) ∧ Below w.heap.size w w' := by
  by_cases c1 : 500 < l
  · have h' : (l : Int) > 500 := by omega
    clear h c1
    go_enter Try.func4, Try.ntmps4
    go_wp2
    go_ret
    exact ⟨rfl, Below.refl _ _⟩
  · have h' : ¬ (l : Int) > 500 := by omega
    by_cases c2 : ¬ (k = 1 ∨ k = 2)
    · have k1 : (k != 1) = true := by simp; omega
      have k2 : (k != 2) = true := by simp; omega
      clear h c1 c2
      go_enter Try.func4, Try.ntmps4
      go_wp2
      go_ret
      exact ⟨rfl, Below.refl _ _⟩
    · by_cases c3 : n < 0
      · clear h c1
        rcases (show k = 1 ∨ k = 2 by omega) with e | e <;> subst e
        all_goals clear c2
        all_goals go_enter Try.func4, Try.ntmps4
        all_goals go_wp2
        all_goals go_ret
        all_goals exact ⟨rfl, Below.refl _ _⟩
      · have c4 : n > 100 := by omega
        clear h c1
        rcases (show k = 1 ∨ k = 2 by omega) with e | e <;> subst e
        all_goals clear c2
        all_goals go_enter Try.func4, Try.ntmps4
        all_goals go_wp2
        all_goals go_ret
        all_goals exact ⟨rfl, Below.refl _ _⟩
set_option maxHeartbeats 4000000 in
theorem main1 (o : Option Addr) (l c : Nat) (F : Nat → Bool) (N : Nat → Int) (m : Nat) (w : World) (R : ActsAt w o l c F N) (hl : l ≤ 500) (hm : m ≤ 100) : Calls Try.prog 4 #[.slice o l c, .int .i64 1, .int .i64 m] w fun e w' => e = .returned (.bool true) ∧ Below w.heap.size w w' := by
  have cn := new_c 0 w
  have hl' : ¬ (l : Int) > 500 := by omega
  have m0 : ¬ (m : Int) < 0 := by omega
  have m1 : ¬ (m : Int) > 100 := by omega
  go_enter Try.func4, Try.ntmps4
  go_wp2_with (go_at_call 6; (with_reducible refine cn.mono ?_); rintro e w1 ⟨rfl, h1, b1, s1⟩; clear cn s1)
  go_loopw [8] (fun ii wr => ∃ j : Nat, j ≤ l ∧ ii = .int .i64 j ∧ SvS wr 43 w.heap.size 0 (norm (playS F N j)) ∧ Below w.heap.size w wr) (fun ii _ => l - (intOf ii).toNat)
  case atStart => exact ⟨0, by omega, rfl, h1, b1⟩
  case round =>
    obtain ⟨j, hj, rfl, hv, hB⟩ := hrel
    clear h1 b1
    by_cases hlt : j < l
    · have ho : ∃ a, o = some a := by
        rcases R.some with h | h
        · omega
        · exact h
      obtain ⟨a, rfl⟩ := ho
      have ok := play_ok F N j
      obtain ⟨k1, k2⟩ := R.cell hB hlt
      have j0 : (0 : Int) ≤ j := Int.natCast_nonneg _
      have j1 : (j : Int) < l := by omega
      have HB := hid hB
      clear hB
      by_cases hF : F j = true
      · rw [hF] at k1
        have cf := force_c hv (N j)
        have hE : playS F N (j + 1) = forceS (playS F N j) (N j) := if_pos hF
        rw [← hE] at cf
        clear hE hF hv ok R
        go_wp2_with (go_at_call 8; (with_reducible refine cf.mono ?_); rintro e w2 ⟨rfl, h2, u2⟩; clear cf)
        go_roundw
        case rel => exact ⟨j + 1, by omega, by go_num, h2, upd_bl HB.out (Nat.le_refl _) u2 (Nat.le_refl _)⟩
        case measure => simp [intOf]; omega
      · rw [show F j = false by simpa using hF] at k1
        have cf := on_c ok (by omega) hv (N j)
        have hE : playS F N (j + 1) = onS (playS F N j) (N j) := if_neg hF
        rw [← hE] at cf
        clear hE hF hv ok R
        go_wp2_with (go_at_call 10; (with_reducible refine cf.mono ?_); rintro e w2 ⟨rfl, h2, u2⟩; clear cf)
        go_roundw
        case rel => exact ⟨j + 1, by omega, by go_num, h2, upd_bl HB.out (Nat.le_refl _) u2 (Nat.le_refl _)⟩
        case measure => simp [intOf]; omega
    · have e : j = l := by omega
      subst e
      have ok := play_ok F N j
      generalize playS F N j = s at *
      have ct := tell_c hv
      rw [norm_told] at ct
      have HB := hid hB
      have HO := hid ok
      have HV := hid hv
      clear hB ok hv R hj hlt
      go_upto_region 13 with (go_at_call 7; (with_reducible refine ct.mono ?_); rintro e w2 ⟨rfl, b2⟩; clear ct)
      have h3 := HV.out.alloc b2 (.cells #[.int .i64 0, .int .i64 s.form, .int .i64 s.gen, .int .i64 s.fast, .int .i64 s.fails] 27)
      have t3 := Tv.new w2 0 s.form s.gen s.fast s.fails
      have B3 := bel_alloc HB.out (Nat.le_refl _) b2 (.cells #[.int .i64 0, .int .i64 s.form, .int .i64 s.gen, .int .i64 s.fast, .int .i64 s.fails] 27)
      have hne : w2.heap.size ≠ w.heap.size := by have := Sv.lt HV.out; have := b2.size; omega
      generalize w2.alloc _ = W3 at *
      generalize w2.heap.size = P at *
      clear b2 HB HV
      have HN := hid hne
      have c3 := t3.cells
      have H3 := hid h3
      have T3 := hid t3
      have HB3 := hid B3
      clear hne h3 t3 B3
      by_cases cA : s.fails ≥ 4
      · go_wp2
        go_ret
        exact ⟨rfl, HB3.out⟩
      · by_cases cB : ¬ (s.form = 0 ∨ s.form = 1)
        · have f0 : (s.form != 0) = true := by simp; omega
          have f1 : (s.form != 1) = true := by simp; omega
          clear cB
          go_wp2
          go_ret
          exact ⟨rfl, HB3.out⟩
        · have hw := fun i => more_warm HO.out 1 (by omega) (by omega) (by omega) i
          have f1 : (s.form != 0) = false ∨ ((s.form != 0) = true ∧ (s.form != 1) = false) := by
            rcases (show s.form = 0 ∨ s.form = 1 by omega) with e | e <;> rw [e] <;> simp
          have HW := hid hw
          clear hw cB
          rcases f1 with f1 | ⟨f1, f2⟩
          all_goals go_wp2
          all_goals go_loopw [10] (fun ii wr => ∃ i : Nat, i ≤ m ∧ ii = .int .i64 i ∧ SvS wr 43 w.heap.size 0 (norm (moreS s 1 i)) ∧ Tv wr P 0 s.form s.gen s.fast s.fails ∧ Below w.heap.size w wr) (fun ii _ => m - (intOf ii).toNat)
          case atStart => exact ⟨0, by omega, rfl, H3.out, T3.out, HB3.out⟩
          case round =>
            obtain ⟨i, hi, rfl, hv, hT, hB⟩ := hrel
            clear c3 H3 T3 HB3
            have ok := more_ok HO.out 1 i
            have HB := hid hB
            have HT := hid hT
            clear hB hT
            by_cases hlt : i < m
            · have co := on_c ok (by omega) hv 1
              clear hv ok
              have hlt' : (i : Int) < m := by omega
              go_wp2_with (go_at_call 10; (with_reducible refine co.mono ?_); rintro e w4 ⟨rfl, h4, u4⟩; clear co)
              go_roundw
              case rel => exact ⟨i + 1, by omega, by go_num, h4, HT.out.upd u4 HN.out, upd_bl HB.out (Nat.le_refl _) u4 (Nat.le_refl _)⟩
              case measure => simp [intOf]; omega
            · have e : i = m := by omega
              subst e
              have ct := tell_c hv
              rw [norm_told] at ct
              obtain ⟨e1, e2, e3, e4⟩ := warm_end (HW.out i)
              have g1 := HO.out.gen
              have g2 := HO.out.fast
              have g3 := ok.gen
              have g4 := ok.fast
              generalize moreS s 1 i = s2 at *
              have v1 : IntKind.i64.wrap (s2.gen - s.gen) = s2.gen - s.gen := by rw [IntKind.wrap_i64]; omega
              have v2 : IntKind.i64.wrap (s2.gen + s2.fast) = s2.gen + s2.fast := by rw [IntKind.wrap_i64]; omega
              have v3 : IntKind.i64.wrap (s.gen + s.fast) = s.gen + s.fast := by rw [IntKind.wrap_i64]; omega
              have v4 : IntKind.i64.wrap (s.gen + s.fast + i) = s.gen + s.fast + i := by rw [IntKind.wrap_i64]; omega
              have x1 : (s2.fails != s.fails) = false := by simp [e1]
              have x2 : ¬ (s2.gen - s.gen > 3) := by omega
              have x3 : (s2.gen + s2.fast != s.gen + s.fast + i) = false := by rw [e3]; simp
              have x4 : (i : Int) < 3 ∨ (¬ (i : Int) < 3 ∧ (s2.form == 1) = true) := by
                by_cases h : (i : Int) < 3
                · exact .inl h
                · refine .inr ⟨h, ?_⟩
                  rcases e4 with e4 | e4
                  · omega
                  · simp [e4]
              generalize s2.gen = G2 at *
              generalize s2.fast = A2 at *
              generalize s2.fails = L2 at *
              generalize s2.form = F2 at *
              have X4 := hid x4
              clear e1 e2 e3 e4 g1 g2 g3 g4 ok hv x4 HW hlt hi
              go_upto_region 20 with (go_at_call 7; (with_reducible refine ct.mono ?_); rintro e w5 ⟨rfl, b5⟩; clear ct)
              have t6 := Tv.new w5 0 F2 G2 A2 L2
              have t5 := (HT.out.below b5).below ((Below.refl _ w5).alloc (Nat.le_refl _) (.cells #[.int .i64 0, .int .i64 F2, .int .i64 G2, .int .i64 A2, .int .i64 L2] 27))
              have B6 := bel_alloc HB.out (Nat.le_refl _) b5 (.cells #[.int .i64 0, .int .i64 F2, .int .i64 G2, .int .i64 A2, .int .i64 L2] 27)
              generalize w5.alloc _ = W6 at *
              generalize w5.heap.size = Q at *
              have c5 := t5.cells
              have c6 := t6.cells
              have HB6 := hid B6
              clear t5 t6 B6 b5 HT HB
              rcases X4.out with x4 | ⟨x4, x5⟩
              · go_wp2_with (go_at_call 12; (with_reducible refine (awake_c _).mono ?_); rintro e w7 ⟨rfl, b7⟩)
                go_ret
                exact ⟨rfl, HB6.out.trans (b7.mono HB6.out.size)⟩
              · go_wp2_with (go_at_call 12; (with_reducible refine (awake_c _).mono ?_); rintro e w7 ⟨rfl, b7⟩)
                go_ret
                exact ⟨rfl, HB6.out.trans (b7.mono HB6.out.size)⟩
          case atStart => exact ⟨0, by omega, rfl, H3.out, T3.out, HB3.out⟩
          case round =>
            obtain ⟨i, hi, rfl, hv, hT, hB⟩ := hrel
            clear c3 H3 T3 HB3
            have ok := more_ok HO.out 1 i
            have HB := hid hB
            have HT := hid hT
            clear hB hT
            by_cases hlt : i < m
            · have co := on_c ok (by omega) hv 1
              clear hv ok
              have hlt' : (i : Int) < m := by omega
              go_wp2_with (go_at_call 10; (with_reducible refine co.mono ?_); rintro e w4 ⟨rfl, h4, u4⟩; clear co)
              go_roundw
              case rel => exact ⟨i + 1, by omega, by go_num, h4, HT.out.upd u4 HN.out, upd_bl HB.out (Nat.le_refl _) u4 (Nat.le_refl _)⟩
              case measure => simp [intOf]; omega
            · have e : i = m := by omega
              subst e
              have ct := tell_c hv
              rw [norm_told] at ct
              obtain ⟨e1, e2, e3, e4⟩ := warm_end (HW.out i)
              have g1 := HO.out.gen
              have g2 := HO.out.fast
              have g3 := ok.gen
              have g4 := ok.fast
              generalize moreS s 1 i = s2 at *
              have v1 : IntKind.i64.wrap (s2.gen - s.gen) = s2.gen - s.gen := by rw [IntKind.wrap_i64]; omega
              have v2 : IntKind.i64.wrap (s2.gen + s2.fast) = s2.gen + s2.fast := by rw [IntKind.wrap_i64]; omega
              have v3 : IntKind.i64.wrap (s.gen + s.fast) = s.gen + s.fast := by rw [IntKind.wrap_i64]; omega
              have v4 : IntKind.i64.wrap (s.gen + s.fast + i) = s.gen + s.fast + i := by rw [IntKind.wrap_i64]; omega
              have x1 : (s2.fails != s.fails) = false := by simp [e1]
              have x2 : ¬ (s2.gen - s.gen > 3) := by omega
              have x3 : (s2.gen + s2.fast != s.gen + s.fast + i) = false := by rw [e3]; simp
              have x4 : (i : Int) < 3 ∨ (¬ (i : Int) < 3 ∧ (s2.form == 1) = true) := by
                by_cases h : (i : Int) < 3
                · exact .inl h
                · refine .inr ⟨h, ?_⟩
                  rcases e4 with e4 | e4
                  · omega
                  · simp [e4]
              generalize s2.gen = G2 at *
              generalize s2.fast = A2 at *
              generalize s2.fails = L2 at *
              generalize s2.form = F2 at *
              have X4 := hid x4
              clear e1 e2 e3 e4 g1 g2 g3 g4 ok hv x4 HW hlt hi
              go_upto_region 20 with (go_at_call 7; (with_reducible refine ct.mono ?_); rintro e w5 ⟨rfl, b5⟩; clear ct)
              have t6 := Tv.new w5 0 F2 G2 A2 L2
              have t5 := (HT.out.below b5).below ((Below.refl _ w5).alloc (Nat.le_refl _) (.cells #[.int .i64 0, .int .i64 F2, .int .i64 G2, .int .i64 A2, .int .i64 L2] 27))
              have B6 := bel_alloc HB.out (Nat.le_refl _) b5 (.cells #[.int .i64 0, .int .i64 F2, .int .i64 G2, .int .i64 A2, .int .i64 L2] 27)
              generalize w5.alloc _ = W6 at *
              generalize w5.heap.size = Q at *
              have c5 := t5.cells
              have c6 := t6.cells
              have HB6 := hid B6
              clear t5 t6 B6 b5 HT HB
              rcases X4.out with x4 | ⟨x4, x5⟩
              · go_wp2_with (go_at_call 12; (with_reducible refine (awake_c _).mono ?_); rintro e w7 ⟨rfl, b7⟩)
                go_ret
                exact ⟨rfl, HB6.out.trans (b7.mono HB6.out.size)⟩
              · go_wp2_with (go_at_call 12; (with_reducible refine (awake_c _).mono ?_); rintro e w7 ⟨rfl, b7⟩)
                go_ret
                exact ⟨rfl, HB6.out.trans (b7.mono HB6.out.size)⟩
set_option maxHeartbeats 4000000 in
theorem main2 (o : Option Addr) (l c : Nat) (F : Nat → Bool) (N : Nat → Int) (m : Nat) (w : World) (R : ActsAt w o l c F N) (hl : l ≤ 500) (hm : m ≤ 100) : Calls Try.prog 4 #[.slice o l c, .int .i64 2, .int .i64 m] w fun e w' => e = .returned (.bool true) ∧ Below w.heap.size w w' := by
  have cn := new_c 0 w
  have hl' : ¬ (l : Int) > 500 := by omega
  have m0 : ¬ (m : Int) < 0 := by omega
  have m1 : ¬ (m : Int) > 100 := by omega
  go_enter Try.func4, Try.ntmps4
  go_wp2_with (go_at_call 6; (with_reducible refine cn.mono ?_); rintro e w1 ⟨rfl, h1, b1, s1⟩; clear cn s1)
  go_loopw [8] (fun ii wr => ∃ j : Nat, j ≤ l ∧ ii = .int .i64 j ∧ SvS wr 43 w.heap.size 0 (norm (playS F N j)) ∧ Below w.heap.size w wr) (fun ii _ => l - (intOf ii).toNat)
  case atStart => exact ⟨0, by omega, rfl, h1, b1⟩
  case round =>
    obtain ⟨j, hj, rfl, hv, hB⟩ := hrel
    clear h1 b1
    by_cases hlt : j < l
    · have ho : ∃ a, o = some a := by
        rcases R.some with h | h
        · omega
        · exact h
      obtain ⟨a, rfl⟩ := ho
      have ok := play_ok F N j
      obtain ⟨k1, k2⟩ := R.cell hB hlt
      have j0 : (0 : Int) ≤ j := Int.natCast_nonneg _
      have j1 : (j : Int) < l := by omega
      have HB := hid hB
      clear hB
      by_cases hF : F j = true
      · rw [hF] at k1
        have cf := force_c hv (N j)
        have hE : playS F N (j + 1) = forceS (playS F N j) (N j) := if_pos hF
        rw [← hE] at cf
        clear hE hF hv ok R
        go_wp2_with (go_at_call 8; (with_reducible refine cf.mono ?_); rintro e w2 ⟨rfl, h2, u2⟩; clear cf)
        go_roundw
        case rel => exact ⟨j + 1, by omega, by go_num, h2, upd_bl HB.out (Nat.le_refl _) u2 (Nat.le_refl _)⟩
        case measure => simp [intOf]; omega
      · rw [show F j = false by simpa using hF] at k1
        have cf := on_c ok (by omega) hv (N j)
        have hE : playS F N (j + 1) = onS (playS F N j) (N j) := if_neg hF
        rw [← hE] at cf
        clear hE hF hv ok R
        go_wp2_with (go_at_call 10; (with_reducible refine cf.mono ?_); rintro e w2 ⟨rfl, h2, u2⟩; clear cf)
        go_roundw
        case rel => exact ⟨j + 1, by omega, by go_num, h2, upd_bl HB.out (Nat.le_refl _) u2 (Nat.le_refl _)⟩
        case measure => simp [intOf]; omega
    · have e : j = l := by omega
      subst e
      have ok := play_ok F N j
      generalize playS F N j = s at *
      have ct := tell_c hv
      rw [norm_told] at ct
      have HB := hid hB
      have HO := hid ok
      have HV := hid hv
      clear hB ok hv R hj hlt
      go_upto_region 13 with (go_at_call 7; (with_reducible refine ct.mono ?_); rintro e w2 ⟨rfl, b2⟩; clear ct)
      have h3 := HV.out.alloc b2 (.cells #[.int .i64 0, .int .i64 s.form, .int .i64 s.gen, .int .i64 s.fast, .int .i64 s.fails] 27)
      have t3 := Tv.new w2 0 s.form s.gen s.fast s.fails
      have B3 := bel_alloc HB.out (Nat.le_refl _) b2 (.cells #[.int .i64 0, .int .i64 s.form, .int .i64 s.gen, .int .i64 s.fast, .int .i64 s.fails] 27)
      have hne : w2.heap.size ≠ w.heap.size := by have := Sv.lt HV.out; have := b2.size; omega
      generalize w2.alloc _ = W3 at *
      generalize w2.heap.size = P at *
      clear b2 HB HV
      have HN := hid hne
      have c3 := t3.cells
      have H3 := hid h3
      have T3 := hid t3
      have HB3 := hid B3
      clear hne h3 t3 B3
      by_cases cA : s.fails ≥ 4
      · go_wp2
        go_ret
        exact ⟨rfl, HB3.out⟩
      · by_cases cB : ¬ (s.form = 0 ∨ s.form = 2)
        · have f0 : (s.form != 0) = true := by simp; omega
          have f1 : (s.form != 2) = true := by simp; omega
          clear cB
          go_wp2
          go_ret
          exact ⟨rfl, HB3.out⟩
        · have hw := fun i => more_warm HO.out 2 (by omega) (by omega) (by omega) i
          have f1 : (s.form != 0) = false ∨ ((s.form != 0) = true ∧ (s.form != 2) = false) := by
            rcases (show s.form = 0 ∨ s.form = 2 by omega) with e | e <;> rw [e] <;> simp
          have HW := hid hw
          clear hw cB
          rcases f1 with f1 | ⟨f1, f2⟩
          all_goals go_wp2
          all_goals go_loopw [10] (fun ii wr => ∃ i : Nat, i ≤ m ∧ ii = .int .i64 i ∧ SvS wr 43 w.heap.size 0 (norm (moreS s 2 i)) ∧ Tv wr P 0 s.form s.gen s.fast s.fails ∧ Below w.heap.size w wr) (fun ii _ => m - (intOf ii).toNat)
          case atStart => exact ⟨0, by omega, rfl, H3.out, T3.out, HB3.out⟩
          case round =>
            obtain ⟨i, hi, rfl, hv, hT, hB⟩ := hrel
            clear c3 H3 T3 HB3
            have ok := more_ok HO.out 2 i
            have HB := hid hB
            have HT := hid hT
            clear hB hT
            by_cases hlt : i < m
            · have co := on_c ok (by omega) hv 2
              clear hv ok
              have hlt' : (i : Int) < m := by omega
              go_wp2_with (go_at_call 10; (with_reducible refine co.mono ?_); rintro e w4 ⟨rfl, h4, u4⟩; clear co)
              go_roundw
              case rel => exact ⟨i + 1, by omega, by go_num, h4, HT.out.upd u4 HN.out, upd_bl HB.out (Nat.le_refl _) u4 (Nat.le_refl _)⟩
              case measure => simp [intOf]; omega
            · have e : i = m := by omega
              subst e
              have ct := tell_c hv
              rw [norm_told] at ct
              obtain ⟨e1, e2, e3, e4⟩ := warm_end (HW.out i)
              have g1 := HO.out.gen
              have g2 := HO.out.fast
              have g3 := ok.gen
              have g4 := ok.fast
              generalize moreS s 2 i = s2 at *
              have v1 : IntKind.i64.wrap (s2.gen - s.gen) = s2.gen - s.gen := by rw [IntKind.wrap_i64]; omega
              have v2 : IntKind.i64.wrap (s2.gen + s2.fast) = s2.gen + s2.fast := by rw [IntKind.wrap_i64]; omega
              have v3 : IntKind.i64.wrap (s.gen + s.fast) = s.gen + s.fast := by rw [IntKind.wrap_i64]; omega
              have v4 : IntKind.i64.wrap (s.gen + s.fast + i) = s.gen + s.fast + i := by rw [IntKind.wrap_i64]; omega
              have x1 : (s2.fails != s.fails) = false := by simp [e1]
              have x2 : ¬ (s2.gen - s.gen > 3) := by omega
              have x3 : (s2.gen + s2.fast != s.gen + s.fast + i) = false := by rw [e3]; simp
              have x4 : (i : Int) < 3 ∨ (¬ (i : Int) < 3 ∧ (s2.form == 2) = true) := by
                by_cases h : (i : Int) < 3
                · exact .inl h
                · refine .inr ⟨h, ?_⟩
                  rcases e4 with e4 | e4
                  · omega
                  · simp [e4]
              generalize s2.gen = G2 at *
              generalize s2.fast = A2 at *
              generalize s2.fails = L2 at *
              generalize s2.form = F2 at *
              have X4 := hid x4
              clear e1 e2 e3 e4 g1 g2 g3 g4 ok hv x4 HW hlt hi
              go_upto_region 20 with (go_at_call 7; (with_reducible refine ct.mono ?_); rintro e w5 ⟨rfl, b5⟩; clear ct)
              have t6 := Tv.new w5 0 F2 G2 A2 L2
              have t5 := (HT.out.below b5).below ((Below.refl _ w5).alloc (Nat.le_refl _) (.cells #[.int .i64 0, .int .i64 F2, .int .i64 G2, .int .i64 A2, .int .i64 L2] 27))
              have B6 := bel_alloc HB.out (Nat.le_refl _) b5 (.cells #[.int .i64 0, .int .i64 F2, .int .i64 G2, .int .i64 A2, .int .i64 L2] 27)
              generalize w5.alloc _ = W6 at *
              generalize w5.heap.size = Q at *
              have c5 := t5.cells
              have c6 := t6.cells
              have HB6 := hid B6
              clear t5 t6 B6 b5 HT HB
              rcases X4.out with x4 | ⟨x4, x5⟩
              · go_wp2_with (go_at_call 12; (with_reducible refine (awake_c _).mono ?_); rintro e w7 ⟨rfl, b7⟩)
                go_ret
                exact ⟨rfl, HB6.out.trans (b7.mono HB6.out.size)⟩
              · go_wp2_with (go_at_call 12; (with_reducible refine (awake_c _).mono ?_); rintro e w7 ⟨rfl, b7⟩)
                go_ret
                exact ⟨rfl, HB6.out.trans (b7.mono HB6.out.size)⟩
          case atStart => exact ⟨0, by omega, rfl, H3.out, T3.out, HB3.out⟩
          case round =>
            obtain ⟨i, hi, rfl, hv, hT, hB⟩ := hrel
            clear c3 H3 T3 HB3
            have ok := more_ok HO.out 2 i
            have HB := hid hB
            have HT := hid hT
            clear hB hT
            by_cases hlt : i < m
            · have co := on_c ok (by omega) hv 2
              clear hv ok
              have hlt' : (i : Int) < m := by omega
              go_wp2_with (go_at_call 10; (with_reducible refine co.mono ?_); rintro e w4 ⟨rfl, h4, u4⟩; clear co)
              go_roundw
              case rel => exact ⟨i + 1, by omega, by go_num, h4, HT.out.upd u4 HN.out, upd_bl HB.out (Nat.le_refl _) u4 (Nat.le_refl _)⟩
              case measure => simp [intOf]; omega
            · have e : i = m := by omega
              subst e
              have ct := tell_c hv
              rw [norm_told] at ct
              obtain ⟨e1, e2, e3, e4⟩ := warm_end (HW.out i)
              have g1 := HO.out.gen
              have g2 := HO.out.fast
              have g3 := ok.gen
              have g4 := ok.fast
              generalize moreS s 2 i = s2 at *
              have v1 : IntKind.i64.wrap (s2.gen - s.gen) = s2.gen - s.gen := by rw [IntKind.wrap_i64]; omega
              have v2 : IntKind.i64.wrap (s2.gen + s2.fast) = s2.gen + s2.fast := by rw [IntKind.wrap_i64]; omega
              have v3 : IntKind.i64.wrap (s.gen + s.fast) = s.gen + s.fast := by rw [IntKind.wrap_i64]; omega
              have v4 : IntKind.i64.wrap (s.gen + s.fast + i) = s.gen + s.fast + i := by rw [IntKind.wrap_i64]; omega
              have x1 : (s2.fails != s.fails) = false := by simp [e1]
              have x2 : ¬ (s2.gen - s.gen > 3) := by omega
              have x3 : (s2.gen + s2.fast != s.gen + s.fast + i) = false := by rw [e3]; simp
              have x4 : (i : Int) < 3 ∨ (¬ (i : Int) < 3 ∧ (s2.form == 2) = true) := by
                by_cases h : (i : Int) < 3
                · exact .inl h
                · refine .inr ⟨h, ?_⟩
                  rcases e4 with e4 | e4
                  · omega
                  · simp [e4]
              generalize s2.gen = G2 at *
              generalize s2.fast = A2 at *
              generalize s2.fails = L2 at *
              generalize s2.form = F2 at *
              have X4 := hid x4
              clear e1 e2 e3 e4 g1 g2 g3 g4 ok hv x4 HW hlt hi
              go_upto_region 20 with (go_at_call 7; (with_reducible refine ct.mono ?_); rintro e w5 ⟨rfl, b5⟩; clear ct)
              have t6 := Tv.new w5 0 F2 G2 A2 L2
              have t5 := (HT.out.below b5).below ((Below.refl _ w5).alloc (Nat.le_refl _) (.cells #[.int .i64 0, .int .i64 F2, .int .i64 G2, .int .i64 A2, .int .i64 L2] 27))
              have B6 := bel_alloc HB.out (Nat.le_refl _) b5 (.cells #[.int .i64 0, .int .i64 F2, .int .i64 G2, .int .i64 A2, .int .i64 L2] 27)
              generalize w5.alloc _ = W6 at *
              generalize w5.heap.size = Q at *
              have c5 := t5.cells
              have c6 := t6.cells
              have HB6 := hid B6
              clear t5 t6 B6 b5 HT HB
              rcases X4.out with x4 | ⟨x4, x5⟩
              · go_wp2_with (go_at_call 12; (with_reducible refine (awake_c _).mono ?_); rintro e w7 ⟨rfl, b7⟩)
                go_ret
                exact ⟨rfl, HB6.out.trans (b7.mono HB6.out.size)⟩
              · go_wp2_with (go_at_call 12; (with_reducible refine (awake_c _).mono ?_); rintro e w7 ⟨rfl, b7⟩)
                go_ret
                exact ⟨rfl, HB6.out.trans (b7.mono HB6.out.size)⟩
end Sw
theorem siteWarms_walk (o : Option Addr) (l c : Nat) (F : Nat → Bool) (N : Nat → Int) (k : Int) (x1 : (Lit.int .i64 k).wf = true) (n : Int) (x2 : (Lit.int .i64 n).wf = true) (w : World) (R : ActsAt w o l c F N) : Calls Try.prog 4 #[.slice o l c, .int .i64 k, .int .i64 n] w fun e w' => e = .returned (.bool true) ∧ Below w.heap.size w w' := by
  by_cases h : 500 < l ∨ ¬ (k = 1 ∨ k = 2) ∨ n < 0 ∨ 100 < n
  · exact Sw.bad o l c k n h w
  · obtain ⟨m, rfl⟩ : ∃ m : Nat, n = m := ⟨n.toNat, by omega⟩
    rcases (show k = 1 ∨ k = 2 by omega) with e | e <;> subst e
    · exact Sw.main1 o l c F N m w R (by omega) (by omega)
    · exact Sw.main2 o l c F N m w R (by omega) (by omega)
end Go.Proofs.Ytalcfblknoojpaa.W
