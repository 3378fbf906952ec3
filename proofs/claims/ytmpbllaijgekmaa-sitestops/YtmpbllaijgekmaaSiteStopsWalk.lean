/- SiteStops: the walk. -/
import Derived.Test.YtmpbllaijgekmaaSi7
namespace Go.Proofs.Ytmpbllaijgekmaa.W
open Go.ChangeShapes Go.WideShapes Go.RowKit Si
set_option linter.unusedVariables false
namespace Ss
theorem long (o : Option Addr) (l c : Nat) (h : 500 < l) (w : World) : Calls Try.prog 6 #[.slice o l c] w fun e w' => e = .returned (.bool true) ∧ Below w.heap.size w w' := by
  have h' : (l : Int) > 500 := by omega
  clear h
  go_enter Try.func6, Try.ntmps6
  go_wp2
  go_ret
  exact ⟨rfl, Below.refl _ _⟩
set_option maxHeartbeats 2000000 in
theorem main (o : Option Addr) (l c : Nat) (N : Nat → Int) (w : World) (R : IntsAt w o l c N) (hl : l ≤ 500) : Calls Try.prog 6 #[.slice o l c] w fun e w' => e = .returned (.bool true) ∧ Below w.heap.size w w' := by
  have cn := new_c 0 w
  have hl' : ¬ (l : Int) > 500 := by omega
  go_enter Try.func6, Try.ntmps6
  go_wp2_with (go_at_call 8; (with_reducible refine cn.mono ?_); rintro e w1 ⟨rfl, h1, b1, s1⟩; clear cn s1)
  go_loopw [4, 5, 6, 7] (fun ii _ _ _ wr => ∃ j : Nat, j ≤ l ∧ ii = .int .i64 j ∧ SvS wr 48 w.heap.size 0 (norm (runS N j)) ∧ Below w.heap.size w wr) (fun ii _ _ _ _ => l - (intOf ii).toNat)
  case atStart => exact ⟨0, by omega, rfl, h1, b1⟩
  case round =>
    obtain ⟨j, hj, rfl, hv, hB⟩ := hrel
    clear h1 b1
    by_cases hlt : j < l
    · have ho : ∃ a, o = some a := by
        rcases R.some with h | h
        · omega
        · exact h
      obtain ⟨a, rfl⟩ := ho
      have ok := run_ok N j
      have sp := stop_of N j (by omega)
      have hcell : ∀ w', Below w.heap.size w w' → _ := fun w' hB => R.cell hB hlt
      have co : ∀ w', SvS w' 48 w.heap.size 0 (norm (runS N j)) → Calls Try.prog 12 #[.pointer (some ⟨w.heap.size, 0, none⟩), .int .i64 (N j)] w' fun e w'' => e = .returned (.int .i64 (onA (runS N j) (N j))) ∧ SvS w'' 48 w.heap.size 0 (norm (runS N (j + 1))) ∧ Upd (· = w.heap.size) w' w'' := fun w' h => on_c ok (by omega) h (N j)
      have ct := tell_c hv
      have ct2 : ∀ w', SvS w' 48 w.heap.size 0 (norm (runS N (j + 1))) → _ := fun w' h => tell_c h
      rw [norm_told] at ct ct2
      have HB := hid hB
      clear hB R ok
      generalize norm (runS N j) = S0 at *
      generalize hS1 : norm (runS N (j + 1)) = S1 at *
      have HS1 := hid hS1
      clear hS1
      generalize onA (runS N j) (N j) = X at *
      generalize (runS N j).form = F at *
      generalize (runS N j).gen = G at *
      generalize (runS N j).fast = A at *
      generalize (runS N j).fails = L at *
      generalize (runS N (j + 1)).form = F' at *
      generalize (runS N (j + 1)).gen = G' at *
      generalize (runS N (j + 1)).fast = A' at *
      generalize (runS N (j + 1)).fails = L' at *
      have HCO := hid co
      have HC := hid hcell
      have HC2 := hid ct2
      clear co hcell ct2
      go_upto_region 10 with (go_at_call 9; (with_reducible refine ct.mono ?_); rintro e w2 ⟨rfl, b2⟩; clear ct)
      have h3 := hv.alloc b2 (.cells #[.int .i64 0, .int .i64 F, .int .i64 G, .int .i64 A, .int .i64 L] 27)
      have t3 := Tv.new w2 0 F G A L
      have B3 := bel_alloc HB.out (Nat.le_refl _) b2 (.cells #[.int .i64 0, .int .i64 F, .int .i64 G, .int .i64 A, .int .i64 L] 27)
      have hne : w2.heap.size ≠ w.heap.size := by have := Sv.lt hv; have := b2.size; omega
      generalize w2.alloc _ = W3 at *
      generalize w2.heap.size = P at *
      have hcell := HC.out W3 B3
      have co := HCO.out W3 h3
      clear HCO HC hv b2 HB
      have HN := hid hne
      clear hne
      have j0 : (0 : Int) ≤ j := Int.natCast_nonneg _
      have j1 : (j : Int) < l := by omega
      go_upto_region 11 with (go_at_call 12; (with_reducible refine co.mono ?_); rintro e w4 ⟨rfl, h4, u4⟩; clear co)
      have t4 := t3.upd u4 HN.out
      have B4 := upd_bl B3 (Nat.le_refl _) u4 (Nat.le_refl _)
      have ct2 := HC2.out w4 h4
      clear h3 t3 B3 u4 hcell HC2
      go_upto_region 12 with (go_at_call 9; (with_reducible refine ct2.mono ?_); rintro e w5 ⟨rfl, b5⟩; clear ct2)
      have h6 := h4.alloc b5 (.cells #[.int .i64 0, .int .i64 F', .int .i64 G', .int .i64 A', .int .i64 L'] 27)
      have t6 := Tv.new w5 0 F' G' A' L'
      have t5 := (t4.below b5).below ((Below.refl _ w5).alloc (Nat.le_refl _) (.cells #[.int .i64 0, .int .i64 F', .int .i64 G', .int .i64 A', .int .i64 L'] 27))
      have B6 := bel_alloc B4 (Nat.le_refl _) b5 (.cells #[.int .i64 0, .int .i64 F', .int .i64 G', .int .i64 A', .int .i64 L'] 27)
      generalize w5.alloc _ = W6 at *
      generalize w5.heap.size = Q at *
      clear h4 t4 B4 b5
      have c5 := t5.cells
      have c6 := t6.cells
      have H6 := hid h6
      have HB6 := hid B6
      clear t5 t6 h6 B6
      obtain ⟨l1, l2, v1, v2, v3, ee, way⟩ := sp
      rcases way with ⟨x1, x2, x3⟩ | ⟨x1, x2⟩ | ⟨x1, x2, x3, x4⟩
      · subst x1
        subst x2
        subst x3
        go_wp2
        go_roundw
        case rel => exact ⟨j + 1, by omega, by go_num, by rw [HS1.out]; exact H6.out, HB6.out⟩
        case measure => simp [intOf]; omega
      · subst x2
        go_wp2
        go_roundw
        case rel => exact ⟨j + 1, by omega, by go_num, by rw [HS1.out]; exact H6.out, HB6.out⟩
        case measure => simp [intOf]; omega
      · subst x3
        subst x4
        go_wp2
        go_roundw
        case rel => exact ⟨j + 1, by omega, by go_num, by rw [HS1.out]; exact H6.out, HB6.out⟩
        case measure => simp [intOf]; omega
    · have e : j = l := by omega
      subst e
      have HB := hid hB
      clear hB
      go_wp2_with (go_at_call 14; (with_reducible refine (awake_c _).mono ?_); rintro e w5 ⟨rfl, b5⟩)
      go_ret
      exact ⟨rfl, HB.out.trans (b5.mono HB.out.size)⟩
end Ss
theorem siteStops_walk (o : Option Addr) (l c : Nat) (N : Nat → Int) (w : World) (R : IntsAt w o l c N) : Calls Try.prog 6 #[.slice o l c] w fun e w' => e = .returned (.bool true) ∧ Below w.heap.size w w' := by
  by_cases h : 500 < l
  · exact Ss.long o l c h w
  · exact Ss.main o l c N w R (by omega)
end Go.Proofs.Ytmpbllaijgekmaa.W
