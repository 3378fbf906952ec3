/- Package site: Pair, and its reference; the statements' awake. -/
import Derived.Test.YtalcfblknoojpaaSi5
import Derived.Test.YtalcfblknoojpaaRefCls
import Derived.LoopTactic
namespace Go.Proofs.Ytalcfblknoojpaa.W.Si
open Go.ChangeShapes Go.WideShapes Go.RowKit
set_option linter.unusedVariables false
/-- what a word is for a site -/
def kindP (n : Int) : Int := if cls n = 2 then 1 else if cls n = 1 then 2 else 0
def pairOf (a b : Int) : Int := if kindP a = kindP b then kindP a else 0
theorem kind_c (n : Int) (h0 : 0 ≤ n) (h1 : n < 18446744073709551616) (w : World) : Calls Try.prog 19 #[.int .u64 n] w fun e w' => e = .returned (.int .i64 (kindP n)) ∧ w' = w := by
  have cc := class_c n h0 h1
  unfold kindP
  generalize cls n = c at *
  clear h0 h1
  by_cases c2 : c = 2
  · subst c2
    rw [if_pos rfl]
    go_enter Try.func19, Try.ntmps19
    go_wp2_with (go_at_call 20; (with_reducible refine (cc _).mono ?_); rintro e w' ⟨rfl, rfl⟩)
    go_ret
    exact ⟨rfl, rfl⟩
  · rw [if_neg c2]
    by_cases c1 : c = 1
    · subst c1
      rw [if_pos rfl]
      go_enter Try.func19, Try.ntmps19
      go_wp2_with (go_at_call 20; (with_reducible refine (cc _).mono ?_); rintro e w' ⟨rfl, rfl⟩)
      go_ret
      exact ⟨rfl, rfl⟩
    · rw [if_neg c1]
      go_enter Try.func19, Try.ntmps19
      go_wp2_with (go_at_call 20; (with_reducible refine (cc _).mono ?_); rintro e w' ⟨rfl, rfl⟩)
      go_ret
      exact ⟨rfl, rfl⟩
theorem pair_c (a b : Int) (a0 : 0 ≤ a) (a1 : a < 18446744073709551616) (b0 : 0 ≤ b) (b1 : b < 18446744073709551616) (w : World) : Calls Try.prog 17 #[.int .u64 a, .int .u64 b] w fun e w' => e = .returned (.int .i64 (pairOf a b)) ∧ w' = w := by
  have ca := kind_c a a0 a1
  have cb := kind_c b b0 b1
  unfold pairOf
  generalize kindP a = x at *
  generalize kindP b = y at *
  clear a0 a1 b0 b1
  by_cases c : x = y
  · subst c
    rw [if_pos rfl]
    go_enter Try.func17, Try.ntmps17
    go_wp2_with (go_at_call 19; first | ((with_reducible refine (ca _).mono ?_); rintro e w' ⟨rfl, rfl⟩) | ((with_reducible refine (cb _).mono ?_); rintro e w' ⟨rfl, rfl⟩))
    go_ret
    exact ⟨rfl, rfl⟩
  · rw [if_neg c]
    have c' : (x != y) = true := by simp [c]
    clear c
    go_enter Try.func17, Try.ntmps17
    go_wp2_with (go_at_call 19; first | ((with_reducible refine (ca _).mono ?_); rintro e w' ⟨rfl, rfl⟩) | ((with_reducible refine (cb _).mono ?_); rintro e w' ⟨rfl, rfl⟩))
    go_ret
    exact ⟨rfl, rfl⟩
theorem pairOf_comm (a b : Int) : pairOf b a = pairOf a b := by
  unfold pairOf
  by_cases h : kindP a = kindP b
  · rw [if_pos h, if_pos h.symm, h]
  · rw [if_neg h, if_neg (fun e => h e.symm)]
/-- what awake makes of a site -/
def awS : Nat → Sp
  | 0 => new
  | n + 1 => onS (awS n) 1
theorem awA (j : Nat) (h : j < 3) : onA (awS j) 1 = 0 := by
  match j, h with
  | 0, _ => rfl
  | 1, _ => rfl
  | 2, _ => rfl
theorem awOk (j : Nat) (h : j ≤ 4) : Ok (2 * j) (awS j) := by
  induction j with
  | zero => exact ok_new
  | succ k ih =>
    have := (ok_on (ih (by omega)) 1).1
    have e : ((2 * (k + 1 : Nat) : Nat) : Int) = 2 * (k : Nat) + 2 := by omega
    show Ok (2 * ((k + 1 : Nat) : Int)) _
    rw [show 2 * ((k + 1 : Nat) : Int) = 2 * (k : Int) + 2 by omega]
    exact this
/-- what is changed lies behind n -/
theorem upd_bl {n m : Nat} {a b c : World} (h : Below n a b) (hn : n ≤ a.heap.size) (u : Upd (fun x => x = m) b c) (hm : n ≤ m) : Below n a c := h.trans (u.below (Nat.le_trans hn h.size) (fun k e => by omega))
set_option maxHeartbeats 1000000 in
theorem awake_c (w : World) : Calls Try.prog 12 #[] w fun e w' => e = .returned (.bool true) ∧ Below w.heap.size w w' := by
  have cn := new_c 7 w
  have cp := pair_c 0 0 (by omega) (by omega) (by omega) (by omega)
  rw [show pairOf 0 0 = 2 by decide] at cp
  go_enter Try.func12, Try.ntmps12
  go_wp2_with (go_at_call 6; (with_reducible refine cn.mono ?_); rintro e w1 ⟨rfl, h1, b1, s1⟩; clear cn)
  go_loopw [2] (fun ii wr => ∃ j : Nat, j ≤ 3 ∧ ii = .int .i64 j ∧ SvS wr 43 w.heap.size 7 (norm (awS j)) ∧ Below w.heap.size w wr) (fun ii _ => 3 - (intOf ii).toNat)
  case atStart => exact ⟨0, by omega, rfl, h1, b1⟩
  case round =>
    obtain ⟨j, hj, rfl, hv, hB⟩ := hrel
    by_cases hlt : j < 3
    · have co := on_c (awOk j (by omega)) (by omega) hv 1
      rw [awA j hlt] at co
      have HB := hid hB
      clear hv hB
      go_wp2_with (go_at_call 10; (with_reducible refine co.mono ?_); rintro e w2 ⟨rfl, h2, u2⟩; clear co)
      go_roundw
      case rel => exact ⟨j + 1, by omega, by go_num, h2, upd_bl HB.out (Nat.le_refl _) u2 (Nat.le_refl _)⟩
      case measure => simp [intOf]; omega
    · have e3 : j = 3 := by omega
      subst e3
      have co := on_c (awOk 3 (by omega)) (by omega) hv 1
      rw [show onA (awS 3) 1 = 1 from rfl] at co
      have HB := hid hB
      clear hv hB
      go_wp2_with (first | (go_at_call 10; (with_reducible refine co.mono ?_); rintro e w2 ⟨rfl, h2, u2⟩; clear co; (have ct := tell_c h2); (rw [show told 7 (norm (onS (awS 3) 1)) = .agg #[.int .i64 7, .int .i64 1, .int .i64 3, .int .i64 1, .int .i64 0] from rfl] at ct)) | (go_at_call 7; (with_reducible refine ct.mono ?_); rintro e w3 ⟨rfl, b3⟩; clear ct) | (go_at_call 17; (with_reducible refine (cp _).mono ?_); rintro e w4 ⟨rfl, hw⟩; (have hw' := hw.symm); subst hw'; clear hw))
      go_ret
      have b2 := upd_bl HB.out (Nat.le_refl _) u2 (Nat.le_refl _)
      exact ⟨rfl, b2.trans (b3.mono b2.size)⟩
end Go.Proofs.Ytalcfblknoojpaa.W.Si
