/- The walk of the statement NumRing: it returns true at every two whole numbers. -/
import Derived.Test.YtpbcplgpbafjpabNumAw
import Derived.Test.YtpbcplgpbafjpabNumN
import Derived.Test.YtpbcplgpbafjpabNumX
import Derived.OpenShut
import Derived.RowKit3
import Derived.Deep.DeepCutAuto
namespace Go.Proofs.Ytpbcplgpbafjpab.W
open Go.ChangeShapes Go.WideShapes Go.RowKit
set_option linter.unusedVariables false in
set_option maxRecDepth 100000 in
set_option maxHeartbeats 8000000 in
theorem numRing_bad (a b q1 q2 q3 r1 r2 r3 r4 h : Int) (pw nw : Bool) (pi pu g ni nu k : Int) (w : World) (ha1 : IntKind.i64.wrap (a.tdiv 2) = q1) (ha2 : IntKind.i64.wrap (b.tdiv 2) = q2) (ha3 : IntKind.i64.wrap (q1 + q2) = q3) (ha4 : a.tmod 2 = r1) (ha5 : b.tmod 2 = r2) (ha6 : IntKind.i64.wrap (r1 + r2) = r3) (ha7 : IntKind.i64.wrap (r3.tdiv 2) = r4) (ha8 : IntKind.i64.wrap (q3 + r4) = h) (hh : ¬ -4611686018427387904 < h ∨ (-4611686018427387904 < h ∧ ¬ h < 4611686018427387903))
    (hM : (g == 0) = false ∨ ((g == 0) = true ∧ (b != 0) = false) ∨ ((g == 0) = true ∧ (b != 0) = true ∧ ¬ b = 0 ∧ (pi.tmod b != 0) = false ∧ (b == -1) = true ∧ (pi == -9223372036854775808) = true) ∨ ((g == 0) = true ∧ (b != 0) = true ∧ ¬ b = 0 ∧ (pi.tmod b != 0) = false ∧ ((b == -1) = true ∧ (pi == -9223372036854775808) = false ∨ (b == -1) = false) ∧ (IntKind.i64.wrap (pi.tdiv b) != a) = false ∧ Hid ((wrap64 (pi.tdiv b) != a) = false))) (hN : ((k == 0) = true ∧ (a != -9223372036854775808) = true) ∨ ((k == 0) = false ∧ (a != -9223372036854775808) = false))
    (c1 : ∀ w, Calls Try.prog 9 #[.agg #[.bool true, .int .i64 a, .int .u64 0], .agg #[.bool true, .int .i64 b, .int .u64 0]] w fun o w' => o = .returned (.tuple #[.agg #[.bool false, .int .i64 0, .int .u64 0], .int .i64 10]) ∧ Gr w w')
    (c2 : ∀ w, Calls Try.prog 9 #[.agg #[.bool true, .int .i64 b, .int .u64 0], .agg #[.bool true, .int .i64 a, .int .u64 0]] w fun o w' => o = .returned (.tuple #[.agg #[.bool false, .int .i64 0, .int .u64 0], .int .i64 10]) ∧ Gr w w')
    (c4 : ∀ w, Calls Try.prog 12 #[.agg #[.bool true, .int .i64 a, .int .u64 0], .agg #[.bool true, .int .i64 b, .int .u64 0]] w fun o w' => o = .returned (.tuple #[.agg #[.bool pw, .int .i64 pi, .int .u64 pu], .int .i64 g]) ∧ Gr w w')
    (c5 : ∀ w, Calls Try.prog 12 #[.agg #[.bool true, .int .i64 b, .int .u64 0], .agg #[.bool true, .int .i64 a, .int .u64 0]] w fun o w' => o = .returned (.tuple #[.agg #[.bool pw, .int .i64 pi, .int .u64 pu], .int .i64 g]) ∧ Gr w w')
    (c6 : ∀ w, Calls Try.prog 13 #[.agg #[.bool true, .int .i64 a, .int .u64 0]] w fun o w' => o = .returned (.tuple #[.agg #[.bool nw, .int .i64 ni, .int .u64 nu], .int .i64 k]) ∧ Gr w w')
    (c7 : ∀ w, Calls Try.prog 11 #[.agg #[.bool true, .int .i64 0, .int .u64 0], .agg #[.bool true, .int .i64 a, .int .u64 0]] w fun o w' => o = .returned (.tuple #[.agg #[.bool nw, .int .i64 ni, .int .u64 nu], .int .i64 k]) ∧ Gr w w') :
    Calls Try.prog 3 #[.int .i64 a, .int .i64 b] w fun e w' => e = .returned (.bool true) ∧ Gr w w' := by
  rcases hh with hh | ⟨hh, hh'⟩
  all_goals
    have HM := hid hM
    have HN := hid hN
    clear hM hN
    have hG := Gr.refl w
    go_enter Try.func3, Try.ntmps3
    go_upto_region 2 with (first | (go_at_call 10; refine (lawWhole_c _ _).mono ?_; rintro e w' ⟨rfl, hg⟩; (try replace hg := hg.of_drew); (try replace f1 := hg.cells f1 (Nat.zero_lt_succ _)); replace hG := hG.trans hg; clear hg) | (go_at_call 9; (with_reducible refine (c1 _).mono ?_); rintro e wS ⟨rfl, hg⟩; (try replace f1 := hg.cells f1 (Nat.zero_lt_succ _)); replace hG := hG.trans hg; clear hg))
    generalize hW : World.alloc _ _ = W1; have hg := Gr.of_eq hW; have f1 := hg.new (Nat.zero_lt_succ _); replace hG := hG.trans hg.of_alloc; clear hg hW
    go_upto_region 3 with (first | (go_at_call 10; refine (lawWhole_c _ _).mono ?_; rintro e w' ⟨rfl, hg⟩; (try replace hg := hg.of_drew); (try replace f1 := hg.cells f1 (Nat.zero_lt_succ _)); replace hG := hG.trans hg; clear hg) | (go_at_call 9; (with_reducible refine (c2 _).mono ?_); rintro e wN ⟨rfl, hg⟩; (try replace f1 := hg.cells f1 (Nat.zero_lt_succ _)); replace hG := hG.trans hg; clear hg))
    generalize hW : World.alloc _ _ = W2; have hg := Gr.of_eq hW; have f2 := hg.new (Nat.zero_lt_succ _); replace hg := hg.of_alloc; replace f1 := hg.cells f1 (Nat.zero_lt_succ _); replace hG := hG.trans hg; clear hg hW
    go_upto_region 12 with fail
    clear c1 c2 f1 f2 ha1 ha2 ha3 ha4 ha5 ha6 ha7 ha8 hh
    go_upto_region 13 with (first | (go_at_call 10; refine (lawWhole_c _ _).mono ?_; rintro e w' ⟨rfl, hg⟩; (try replace hg := hg.of_drew); (try replace f1 := hg.cells f1 (Nat.zero_lt_succ _)); replace hG := hG.trans hg; clear hg) | (go_at_call 12; (with_reducible refine (c4 _).mono ?_); rintro e wN ⟨rfl, hg⟩; (try replace f1 := hg.cells f1 (Nat.zero_lt_succ _)); replace hG := hG.trans hg; clear hg))
    generalize hW : World.alloc _ _ = W1; have hg := Gr.of_eq hW; have f1 := hg.new (Nat.zero_lt_succ _); replace hG := hG.trans hg.of_alloc; clear hg hW
    go_upto_region 14 with (first | (go_at_call 10; refine (lawWhole_c _ _).mono ?_; rintro e w' ⟨rfl, hg⟩; (try replace hg := hg.of_drew); (try replace f1 := hg.cells f1 (Nat.zero_lt_succ _)); replace hG := hG.trans hg; clear hg) | (go_at_call 12; (with_reducible refine (c5 _).mono ?_); rintro e wN ⟨rfl, hg⟩; (try replace f1 := hg.cells f1 (Nat.zero_lt_succ _)); replace hG := hG.trans hg; clear hg))
    generalize hW : World.alloc _ _ = W2; have hg := Gr.of_eq hW; have f2 := hg.new (Nat.zero_lt_succ _); replace hg := hg.of_alloc; replace f1 := hg.cells f1 (Nat.zero_lt_succ _); replace hG := hG.trans hg; clear hg hW
    go_upto_region 16 with fail
    clear f2
    go_cut [145] (fun o wc => o = .bool false ∧ wc = W2)
    case first =>
      rcases HM.out with h1 | ⟨h1, h2⟩ | ⟨h1, h2, h3, h4, h5, h6⟩ | ⟨h1, h2, h3, h4, ⟨h5, h6⟩ | h5, h7, h8⟩
      all_goals go_wp2
      all_goals go_meet
      all_goals first | exact ⟨rfl, rfl⟩ | exact ⟨by rw [h8.out], rfl⟩
    case rest =>
      obtain ⟨rfl, rfl⟩ := hcut
      clear f1 HM
      go_upto_region 19 with (first | (go_at_call 10; refine (lawWhole_c _ _).mono ?_; rintro e w' ⟨rfl, hg⟩; (try replace hg := hg.of_drew); (try replace f1 := hg.cells f1 (Nat.zero_lt_succ _)); replace hG := hG.trans hg; clear hg) | (go_at_call 13; (with_reducible refine (c6 _).mono ?_); rintro e wN ⟨rfl, hg⟩; (try replace f1 := hg.cells f1 (Nat.zero_lt_succ _)); replace hG := hG.trans hg; clear hg))
      generalize hW : World.alloc _ _ = W1; have hg := Gr.of_eq hW; have f1 := hg.new (Nat.zero_lt_succ _); replace hG := hG.trans hg.of_alloc; clear hg hW
      go_upto_region 20 with (first | (go_at_call 10; refine (lawWhole_c _ _).mono ?_; rintro e w' ⟨rfl, hg⟩; (try replace hg := hg.of_drew); (try replace f1 := hg.cells f1 (Nat.zero_lt_succ _)); replace hG := hG.trans hg; clear hg) | (go_at_call 11; (with_reducible refine (c7 _).mono ?_); rintro e wN ⟨rfl, hg⟩; (try replace f1 := hg.cells f1 (Nat.zero_lt_succ _)); replace hG := hG.trans hg; clear hg))
      generalize hW : World.alloc _ _ = W2; have hg := Gr.of_eq hW; have f2 := hg.new (Nat.zero_lt_succ _); replace hg := hg.of_alloc; replace f1 := hg.cells f1 (Nat.zero_lt_succ _); replace hG := hG.trans hg; clear hg hW
      rcases HN.out with ⟨h1, h2⟩ | ⟨h1, h2⟩
      all_goals
        go_wp2_with (go_at_call 14; refine (awake_c _).mono ?_; rintro e w' ⟨rfl, hg⟩; replace hG := hG.trans hg; clear hg)
        go_ret
        exact ⟨rfl, hG⟩
end Go.Proofs.Ytpbcplgpbafjpab.W
