import Derived.Test.YtenpopelbmeemaaGreatBwBJ
import Derived.Test.YtenpopelbmeemaaGreatBwCJ
import Derived.Test.YtenpopelbmeemaaGreatBvBJ
/- BufOutside: the walks. -/
namespace Go.Proofs.YtenpopelbmeemaaGreat.W
open Go.ChangeShapes Go.WideShapes Go.RowKit Go.Shelf
set_option linter.unusedVariables false
set_option maxRecDepth 100000 in
set_option maxHeartbeats 2000000 in
theorem bo_in (k : Int) (n : Nat) (i : Nat) (z o : Int) (hk : thK k) (hk5 : ¬ k < 5) (hk9 : ¬ k > 9) (hn : n ≤ 100) (hi : i < n) (hz1 : ¬ z = 18444773748872577025) (hz2 : ¬ z = 4607182418800017408) (ho : o = 18444773748872577025 ∨ o = 4607182418800017408) (wy : Ways k n z o) (w : World) :
    Calls Tryz.prog 5 #[.int .i64 k, .int .i64 n, .int .i64 i] w fun e w' => e = .returned (.bool true) ∧ Below w.heap.size w w' := by
  obtain ⟨d, L0, S0, D⟩ := wy
  have hne : sumH ([] : List (Option Hc)) + (blankH k n).need ≤ 500 := by
    rw [blank_need hk]
    have := elT_cases hk
    show 0 + (1 + (n * elT k + 7) / 8) ≤ 500
    rcases this with e | e | e | e <;> rw [e] <;> omega
  have hz1' : (z == 18444773748872577025) = false := by simpa using hz1
  have hz2' : (z == 4607182418800017408) = false := by simpa using hz2
  clear hz1 hz2
  have a1 : ¬ (n : Int) < 0 := by omega
  have a2 : ¬ (n : Int) > 100 := by omega
  have cn := hf_new (Below.refl w.heap.size w) 500 (by decide)
  rw [show ((500 : Nat) : Int) = 500 from rfl] at cn
  have C1 : Hid (∀ (W : World) (hb : Nat) (q : Hf w W hb [] 500 (fun k => k < w.heap.size)), Calls Tryz.prog 8 #[.pointer (some ⟨hb, 0, none⟩), .int .i64 k, .int .i64 n, .slice none 0 0] W fun e w' => e = .returned (.tuple #[.int .u64 (hw 0 : Nat), .int .i64 0]) ∧ Hf w w' hb [some (blankH k n)] 500 (fun k => k < w.heap.size)) := hid (fun W hb q => (bnew_c q k hk n hne (.slice none 0 0) [] (words_nil W _ _)).mono (by rintro e w' ⟨rfl, h1, h2⟩; exact ⟨rfl, h1⟩))
  have C2 : Hid (∀ (W : World) (hb : Nat), Hf w W hb [some (blankH k n)] 500 (fun k => k < w.heap.size) → Calls Tryz.prog 11 #[.pointer (some ⟨hb, 0, none⟩), .int .u64 (hw 0 : Nat), .int .i64 i] W fun e w' => e = .returned (.tuple #[.int .u64 z, .int .i64 0]) ∧ Below W.heap.size W w') := hid (fun W hb q => L0 w W hb _ i hi q)
  have C3 : Hid (∀ (W : World) (hb : Nat), Hf w W hb [some (blankH k n)] 500 (fun k => k < w.heap.size) → Calls Tryz.prog 10 #[.pointer (some ⟨hb, 0, none⟩), .int .u64 (hw 0 : Nat), .int .i64 i, .int .u64 18444773748872577025] W fun e w' => e = .returned (.int .i64 0) ∧ Hf w w' hb [some (d i)] 500 (fun k => k < w.heap.size)) := hid (fun W hb q => S0 w W hb _ i hi q)
  have C4 : Hid (∀ (W : World) (hb : Nat) (j : Nat), j < n → Hf w W hb [some (d i)] 500 (fun k => k < w.heap.size) → Calls Tryz.prog 11 #[.pointer (some ⟨hb, 0, none⟩), .int .u64 (hw 0 : Nat), .int .i64 j] W fun e w' => e = .returned (.tuple #[.int .u64 (if j = i then o else z), .int .i64 0]) ∧ Below W.heap.size W w') := hid (fun W hb j hj q => (D i hi).2 w W hb _ j hj q)
  have i1 : (i : Int) ≥ 0 := by omega
  have i2 : (i : Int) < n := by omega
  generalize d i = c1' at *
  have HN := hid hn
  clear L0 S0 D hk hne
  generalize blankH k n = c0 at *
  generalize hw 0 = b0 at *
  go_enter Tryz.func5, Tryz.ntmps5
  go_wp2_with (first | (go_at_call 7; (with_reducible refine cn.mono ?_); rintro e W1 ⟨hb, rfl, q1, hB1⟩; clear cn; (have c1 := C1.out W1 hb q1); clear q1 hB1 C1) | (go_at_call 8; (with_reducible refine c1.mono ?_); rintro e W2 ⟨rfl, q2⟩; clear c1; (have c2 := C2.out W2 hb q2); (have Q2 := hid q2); clear q2 C2) | (go_at_call 11; (with_reducible refine c2.mono ?_); rintro e W3 ⟨rfl, hB3⟩; clear c2; (have c3 := C3.out W3 hb (Q2.out.below' hB3)); clear hB3 Q2 C3) | (go_at_call 10; (with_reducible refine c3.mono ?_); rintro e W4 ⟨rfl, q4⟩; clear c3; (have Q4 := hid q4); clear q4))
  go_loopw [16, 17, 18, 19] (fun ii _ _ _ wr => ∃ j : Nat, j ≤ n ∧ ii = .int .i64 j ∧ Hf w wr hb [some c1'] 500 (fun k => k < w.heap.size)) (fun ii _ _ _ _ => n - (intOf ii).toNat)
  case atStart => exact ⟨0, Nat.zero_le _, rfl, Q4.out⟩
  case round =>
    obtain ⟨j, hj, rfl, q⟩ := hrel
    clear Q4
    have w1 := bv_succ hj (Nat.le_trans HN.out (by decide))
    by_cases hlt : j < n
    · have cl := C4.out wr hb j hlt q
      have j1 := bv_lt hlt
      have QJ := hid q
      clear q C4
      by_cases c : j = i
      · subst c
        rw [if_pos rfl] at cl
        rcases ho with rfl | rfl
        · go_wp2_with (go_at_call 11; (with_reducible refine cl.mono ?_); rintro e w3 ⟨rfl, hB3⟩; clear cl)
          go_roundw
          case rel => exact ⟨j + 1, hlt, by go_num, QJ.out.below' hB3⟩
          case measure => exact bv_meas hlt
        · go_wp2_with (go_at_call 11; (with_reducible refine cl.mono ?_); rintro e w3 ⟨rfl, hB3⟩; clear cl)
          go_roundw
          case rel => exact ⟨j + 1, hlt, by go_num, QJ.out.below' hB3⟩
          case measure => exact bv_meas hlt
      · rw [if_neg c] at cl
        have c' : ¬ (j : Int) = i := by omega
        go_wp2_with (go_at_call 11; (with_reducible refine cl.mono ?_); rintro e w3 ⟨rfl, hB3⟩; clear cl)
        go_roundw
        case rel => exact ⟨j + 1, hlt, by go_num, QJ.out.below' hB3⟩
        case measure => exact bv_meas hlt

    · have j1 := bv_nlt hlt
      have cw := awake9_c wr
      have Q := hid q
      clear q C4
      go_wp2_with (go_at_call 14; (with_reducible refine cw.mono ?_); rintro e w5 ⟨rfl, hB5⟩; clear cw)
      go_ret
      exact ⟨rfl, Q.out.bel.trans (hB5.mono Q.out.bel.size)⟩
end Go.Proofs.YtenpopelbmeemaaGreat.W
