import Derived.Test.YtmeoonnofiicpaaS8fJ
import Derived.Test.YtmeoonnofiicpaaS8bJ
/- big. -/
namespace Go.Proofs.Ytmeoonnofiicpaa.W.Si
open Go.ChangeShapes Go.WideShapes Go.RowKit Go.Shelf
set_option linter.unusedVariables false
set_option linter.unusedSimpArgs false
theorem add_far (a : Addr) (i j : Nat) (hj : 0 < j) : a.add (i + j) = ⟨(a.add i).block, (a.add i).off + j, none⟩ := by
  unfold Addr.add
  rw [if_neg (by omega)]
  by_cases h : i = 0
  · subst h; simp
  · rw [if_neg h]; simp; omega
theorem wf_i {i : Int} (h : (Lit.int .i64 i).wf = true) : -9223372036854775808 ≤ i ∧ i ≤ 9223372036854775807 := by
  simp [Lit.wf] at h
  have e1 : IntKind.i64.min = -9223372036854775808 := by decide
  have e2 : IntKind.i64.max = 9223372036854775807 := by decide
  omega
set_option maxRecDepth 100000 in
set_option maxHeartbeats 2000000 in
theorem big_c {W : World} {o : Option Addr} {n c : Nat} {F : Nat → A6} (h : Acts6 W o n c F) (hn : n ≤ 300) : Calls Try.prog 5 #[.slice o n c] W fun e w' => ∃ b, e = .returned (.bool b) ∧ w' = W := by
  have H := hid h
  clear h
  go_enter Try.func5, Try.ntmps5
  go_wp2
  go_loopw [3, 4] (fun ss ii wr => ∃ (i s : Nat), i ≤ n ∧ s ≤ 200000 ∧ ii = .int .i64 (i : Nat) ∧ ss = .int .i64 (s : Nat) ∧ wr = W) (fun _ ii _ => n - (intOf ii).toNat)
  case atStart => exact ⟨0, 0, Nat.zero_le _, Nat.zero_le _, rfl, rfl, rfl⟩
  case round =>
    obtain ⟨i, s, hi, hs, rfl, rfl, rfl⟩ := hrel
    by_cases hin : i < n
    · rcases H.out with ⟨_, h0⟩ | ⟨a, rfl, hlc, hcm, hall⟩
      · omega
      obtain ⟨⟨_, hw1, _⟩, hcell⟩ := hall i hin
      have c0 := hcell 0 (by omega)
      have c1 := hcell 1 (by omega)
      rw [Nat.add_zero] at c0
      rw [add_far a (i * 6) 1 (by omega)] at c1
      simp only [A6.cells, List.getElem?_cons_zero, List.getElem?_cons_succ] at c0 c1
      have hwf := wf_i hw1
      have k0 : (0 : Int) ≤ i := Int.natCast_nonneg _
      have k1 : (i : Int) < n := by omega
      have wk : IntKind.i64.wrap ((i : Int) + 1) = (i : Int) + 1 := by rw [IntKind.wrap_i64]; omega
      have HM := hid (show n - ((i : Int) + 1).toNat < n - ((i : Int)).toNat by omega)
      have HI := hid (show i + 1 ≤ n from hin)
      have HS := hid hs
      generalize (F i).what = q at *
      generalize (F i).n = m at *
      clear hall hcell hw1 hlc hcm H hi hin hwf
      by_cases h1 : q = 1
      · subst h1
        by_cases h2 : m > 0
        · by_cases h3 : m ≤ 8388608
          · by_cases h4 : m > 20000
            · clear hs
              go_wp2
              go_ret
              first | exact ⟨_, rfl, rfl⟩ | exact rfl | (simp; done) | trace_state
            · obtain ⟨mn, rfl⟩ : ∃ mn : Nat, m = mn := ⟨m.toNat, by omega⟩
              have ws : IntKind.i64.wrap ((s : Int) + (mn : Int)) = ((s + mn : Nat) : Int) := by rw [IntKind.wrap_i64]; omega
              by_cases h5 : ((s + mn : Nat) : Int) > 200000
              · clear hs
                have h5' : 200000 < s + mn := by omega
                generalize hS0 : ((s + mn : Nat) : Int) = S0 at *
                clear hS0 h5'
                go_wp2
                go_ret
                first | exact ⟨_, rfl, rfl⟩ | exact rfl | (simp; done) | trace_state
              · have HS5 := hid (show s + mn ≤ 200000 by omega)
                clear hs
                obtain ⟨S0, hS0⟩ : ∃ S0 : Int, ((s + mn : Nat) : Int) = S0 := ⟨_, rfl⟩
                have HS0 := hid hS0
                rw [hS0] at ws h5
                clear hS0
                go_wp2
                go_roundw
                case rel => exact ⟨i + 1, s + mn, HI.out, HS5.out, rfl, congrArg _ HS0.out.symm, by trivial⟩
                case measure => exact HM.out
          · clear hs
            go_wp2
            go_roundw
            case rel => exact ⟨i + 1, s, HI.out, HS.out, rfl, rfl, by trivial⟩
            case measure => exact HM.out
        · clear hs
          go_wp2
          go_roundw
          case rel => exact ⟨i + 1, s, HI.out, HS.out, rfl, rfl, by trivial⟩
          case measure => exact HM.out
      · have h1' : (q == 1) = false := by rw [beq_eq_false_iff_ne]; exact h1
        clear hs h1
        go_wp2
        go_roundw
        case rel => exact ⟨i + 1, s, HI.out, HS.out, rfl, rfl, by trivial⟩
        case measure => exact HM.out
    · have k1 : ¬ (i : Int) < n := by omega
      clear hi hin hs
      go_wp2
      go_ret
      first | exact ⟨_, rfl, rfl⟩ | exact rfl | (simp; done) | trace_state
end Go.Proofs.Ytmeoonnofiicpaa.W.Si
