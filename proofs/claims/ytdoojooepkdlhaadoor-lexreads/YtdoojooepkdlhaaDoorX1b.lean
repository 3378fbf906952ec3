/- Package lex: classes of bytes; how many stand in front. -/
import Derived.Test.YtdoojooepkdlhaaDoorX1a
import Derived.Test.YtdoojooepkdlhaaDoorZ4
namespace Go.Proofs.YtdoojooepkdlhaaDoor.W
open Go.ChangeShapes Go.WideShapes Go.RowKit Go.Shelf
set_option linter.unusedVariables false
theorem u8_eq (c : UInt8) (n : Nat) (h : n < 256) : (c == n.toUInt8) = decide (c.toNat = n) := by
  rw [Bool.eq_iff_iff, beq_iff_eq, decide_eq_true_eq]
  constructor
  · rintro rfl; simp; omega
  · intro e; rw [← e]; simp
theorem isBlank_c (c : UInt8) (w : World) : Calls Tryd.prog 33 #[.int .u8 c.toNat] w fun e w' => e = .returned (.bool (blankB c)) ∧ w' = w := by
  have e1 : blankB c = (decide (c.toNat = 32) || decide (c.toNat = 9) || decide (c.toNat = 10)) := by
    unfold blankB
    rw [← u8_eq c 32 (by decide), ← u8_eq c 9 (by decide), ← u8_eq c 10 (by decide)]; rfl
  rw [e1]
  go_enter Tryd.func33, Tryd.ntmps33
  go_wp2
  all_goals (go_ret; refine ⟨ret_bool ?_, rfl⟩; rw [Bool.eq_iff_iff]; simp; omega)
theorem isDigit_c (c : UInt8) (w : World) : Calls Tryd.prog 35 #[.int .u8 c.toNat] w fun e w' => e = .returned (.bool (digB c)) ∧ w' = w := by
  go_enter Tryd.func35, Tryd.ntmps35
  go_wp2
  all_goals (go_ret; refine ⟨ret_bool ?_, rfl⟩; simp only [digB]; rw [Bool.eq_iff_iff]; simp only [decide_eq_true_eq, Bool.false_eq_true, false_iff]; omega)
theorem inLine_c (c : UInt8) (w : World) : Calls Tryd.prog 32 #[.int .u8 c.toNat] w fun e w' => e = .returned (.bool (lineB c)) ∧ w' = w := by
  have e1 : lineB c = !decide (c.toNat = 10) := by
    unfold lineB bne
    rw [← u8_eq c 10 (by decide)]; rfl
  rw [e1]
  go_enter Tryd.func32, Tryd.ntmps32
  go_wp2
  all_goals (go_ret; refine ⟨ret_bool ?_, rfl⟩; first | rfl | (rw [Bool.eq_iff_iff]; simp; done) | (rw [Bool.eq_iff_iff]; simp; omega))
theorem inName_c (c : UInt8) (w : World) : Calls Tryd.prog 34 #[.int .u8 c.toNat] w fun e w' => e = .returned (.bool (nameB c)) ∧ w' = w := by
  have e1 : nameB c = (decide (97 ≤ c.toNat ∧ c.toNat ≤ 122) || digB c || decide (c.toNat = 95)) := by
    unfold nameB
    rw [← u8_eq c 95 (by decide)]; rfl
  rw [e1]
  cases hd : digB c
  all_goals (
    have cd := isDigit_c c
    rw [hd] at cd
    clear e1 hd
    go_enter Tryd.func34, Tryd.ntmps34
    go_wp2_with (go_at_call 35; (with_reducible refine (cd _).mono ?_); rintro e w' ⟨rfl, rfl⟩)
    all_goals (go_ret; refine ⟨ret_bool ?_, rfl⟩; first | rfl | (rw [Bool.eq_iff_iff]; simp; done) | (rw [Bool.eq_iff_iff]; simp; omega)))
theorem hexOrPoint_c (c : UInt8) (w : World) : Calls Tryd.prog 39 #[.int .u8 c.toNat] w fun e w' => e = .returned (.bool (hexPB c)) ∧ w' = w := by
  have e1 : hexPB c = (decide (c.toNat = 46) || hexB c) := by
    unfold hexPB
    rw [← u8_eq c 46 (by decide)]; rfl
  have e2 : hexB c = decide (hexV c ≥ 0) := rfl
  rw [e1, e2]
  clear e1 e2
  have ci := indexHex_c c
  generalize hexV c = v at *
  go_enter Tryd.func39, Tryd.ntmps39
  go_wp2_with (go_at_call 49; (with_reducible refine (ci _).mono ?_); rintro e w' ⟨rfl, rfl⟩)
  all_goals (go_ret; refine ⟨ret_bool ?_, rfl⟩; first | rfl | (rw [Bool.eq_iff_iff]; simp; done) | (rw [Bool.eq_iff_iff]; simp; omega))
theorem get_at (s : ByteArray) (k : Nat) (h : k < s.size) : s.data.toList[k]? = some s[k] := by
  rw [Array.getElem?_toList, Array.getElem?_eq_getElem h]; rfl
set_option maxHeartbeats 400000 in
/-- how many bytes in front are of a class, whichever function tells it -/
theorem run_g (s : ByteArray) (hs : s.size ≤ maxLen) (f : Nat) (p : UInt8 → Bool) (eg : ∀ args w, (callFunc f args).run Tryd.prog w = .ok (.enter f args) w) (cp : ∀ (c : UInt8) (w : World), Calls Tryd.prog f #[.int .u8 c.toNat] w fun e w' => e = .returned (.bool (p c)) ∧ w' = w) (w : World) :
    Calls Tryd.prog 31 #[.string s, .func (.func f) #[] #[]] w fun e w' => e = .returned (.int .i64 (runN p s.data.toList)) ∧ w' = w := by
  unfold maxLen at hs
  have sl := size_list s
  go_enter Tryd.func31, Tryd.ntmps31
  go_wp2_with fail
  go_loop [8] (fun i => ∃ k : Nat, k ≤ s.size ∧ i = .int .i64 k ∧ (s.data.toList.take k).all p = true) (fun i => s.size - (intOf i).toNat)
  case atStart => exact ⟨0, Nat.zero_le _, rfl, rfl⟩
  case round =>
    obtain ⟨k, hk, rfl, ha⟩ := hrel
    by_cases hlt : k < s.size
    · have cc := cp s[k]
      cases hd : p s[k] with
      | true =>
        have R := hid (show (s.data.toList.take (k + 1)).all p = true by rw [take_snoc s k hlt, List.all_append, ha]; simp [hd])
        rw [hd] at cc
        clear ha hd
        go_wp2_with (go_at_fn f; (with_reducible refine (cc _).mono ?_); rintro e w' ⟨rfl, rfl⟩)
        go_round
        case rel => exact ⟨k + 1, hlt, by go_num, R.out⟩
        case measure => simp [intOf]; omega
      | false =>
        have R := hid (runN_at p s.data.toList k ha (by omega) (fun c hc => by rw [get_at s k hlt] at hc; injection hc with hc; rw [← hc]; exact hd))
        rw [hd] at cc
        clear ha hd
        go_wp2_with (go_at_fn f; (with_reducible refine (cc _).mono ?_); rintro e w' ⟨rfl, rfl⟩)
        go_ret
        exact ⟨by rw [R.out]; rfl, rfl⟩
    · have R := hid (runN_at p s.data.toList k ha (by omega) (fun c hc => by rw [List.getElem?_eq_none (by omega)] at hc; cases hc))
      have hk2 : k = s.size := by omega
      clear ha
      subst hk2
      go_wp2_with fail
      go_ret
      exact ⟨by rw [R.out]; rfl, rfl⟩
end Go.Proofs.YtdoojooepkdlhaaDoor.W
