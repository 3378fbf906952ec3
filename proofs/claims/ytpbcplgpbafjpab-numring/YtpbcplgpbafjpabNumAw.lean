/- The statements' own 'awake': one and a half; a sum that does not fit; a double beside a whole number. -/
import Derived.Test.YtpbcplgpbafjpabNumB
import Derived.Test.YtpbcplgpbafjpabNumO
namespace Go.Proofs.Ytpbcplgpbafjpab.W
open Go.ChangeShapes Go.WideShapes Go.RowKit
theorem aw1 : opI .add (bitsI true 1 0) (bitsI false 0 4602678819172646912) = 4609434218613702656 := by decide +kernel
theorem aw2 : lessN false 0 4845873199050653696 true 9007199254740993 0 = true := by decide +kernel
theorem aw3 (w : World) : Calls Try.prog 9 #[.agg #[.bool true, .int .i64 1, .int .u64 0], .agg #[.bool false, .int .i64 0, .int .u64 4602678819172646912]] w fun e w' => e = .returned (.tuple #[.agg #[.bool false, .int .i64 0, .int .u64 4609434218613702656], .int .i64 0]) ∧ Gr w w' := by
  have h := numAdd_mixed true false 1 0 0 4602678819172646912 (Or.inr rfl) w
  rw [aw1] at h
  exact h
theorem aw4 (w : World) : Calls Try.prog 9 #[.agg #[.bool true, .int .i64 9223372036854775807, .int .u64 0], .agg #[.bool true, .int .i64 1, .int .u64 0]] w fun e w' => e = .returned (.tuple #[.agg #[.bool false, .int .i64 0, .int .u64 0], .int .i64 10]) ∧ Gr w w' := by
  have h := numAdd_c true true 9223372036854775807 0 1 0 (by decide) (by decide) (by decide) (by decide) w
  have e : addR true 9223372036854775807 0 true 1 0 = bad 10 := by unfold addR; rw [if_pos ⟨rfl, rfl⟩, fitR_out (by decide)]
  rw [e] at h
  exact h
theorem aw5 (w : World) : Calls Try.prog 35 #[.agg #[.bool false, .int .i64 0, .int .u64 4845873199050653696], .agg #[.bool true, .int .i64 9007199254740993, .int .u64 0]] w fun e w' => e = .returned (.bool true) ∧ Gr w w' := by
  have h := numLess_c false true 0 4845873199050653696 9007199254740993 0 (by unfold inN; decide) (by unfold inN; decide) w
  rw [aw2] at h
  exact h
set_option maxHeartbeats 1000000 in
theorem awake_c (w : World) :
    Calls Try.prog 14 #[] w fun e w' => e = .returned (.bool true) ∧ Gr w w' := by
  have hG := Gr.refl w
  go_enter Try.func14, Try.ntmps14
  go_wp2_with (first | (go_at_call 10; refine (lawWhole_c _ _).mono ?_; rintro e w' ⟨rfl, hg⟩; (try replace hg := hg.of_drew); (first | (have f1 := hg.new (Nat.zero_lt_succ _); replace hg := hg.of_alloc) | (replace hg := hg.of_alloc) | skip); (try replace f1 := hg.cells f1 (Nat.zero_lt_succ _)); replace hG := hG.trans hg; clear hg) | (go_at_call 17; refine (lawDouble_c _ _).mono ?_; rintro e w' ⟨rfl, hg⟩; (try replace hg := hg.of_drew); (first | (have f1 := hg.new (Nat.zero_lt_succ _); replace hg := hg.of_alloc) | (replace hg := hg.of_alloc) | skip); (try replace f1 := hg.cells f1 (Nat.zero_lt_succ _)); replace hG := hG.trans hg; clear hg) | (go_at_call 9; with_reducible refine (aw3 _).mono ?_; rintro e wA ⟨rfl, hg⟩; (try replace hg := hg.of_drew); (first | (have f1 := hg.new (Nat.zero_lt_succ _); replace hg := hg.of_alloc) | (replace hg := hg.of_alloc) | skip); (try replace f1 := hg.cells f1 (Nat.zero_lt_succ _)); replace hG := hG.trans hg; clear hg) | (go_at_call 9; with_reducible refine (aw4 _).mono ?_; rintro e w' ⟨rfl, hg⟩; (try replace hg := hg.of_drew); (first | (have f1 := hg.new (Nat.zero_lt_succ _); replace hg := hg.of_alloc) | (replace hg := hg.of_alloc) | skip); (try replace f1 := hg.cells f1 (Nat.zero_lt_succ _)); replace hG := hG.trans hg; clear hg))
  generalize hW : World.alloc w' _ = W
  have hg := Gr.of_alloc (Gr.of_eq hW)
  replace f1 := hg.cells f1 (Nat.zero_lt_succ _)
  replace hG := hG.trans hg
  clear hg hW
  go_region_held3 (fun w' => ∀ i, w'.cell? ⟨wA.heap.size, i, none⟩ = #[Value.bool false, .int .i64 0, .int .u64 4609434218613702656][i]?) (exact f1) (first | (go_at_call 10; refine (lawWhole_c _ _).mono ?_; rintro e w' ⟨rfl, hg⟩; (try replace hg := hg.of_drew); (first | (have f1 := hg.new (Nat.zero_lt_succ _); replace hg := hg.of_alloc) | (replace hg := hg.of_alloc) | skip); (try replace f1 := hg.cells f1 (Nat.zero_lt_succ _)); replace hG := hG.trans hg; clear hg) | (go_at_call 17; refine (lawDouble_c _ _).mono ?_; rintro e w' ⟨rfl, hg⟩; (try replace hg := hg.of_drew); (first | (have f1 := hg.new (Nat.zero_lt_succ _); replace hg := hg.of_alloc) | (replace hg := hg.of_alloc) | skip); (try replace f1 := hg.cells f1 (Nat.zero_lt_succ _)); replace hG := hG.trans hg; clear hg) | (go_at_call 35; with_reducible refine (aw5 _).mono ?_; rintro e w' ⟨rfl, hg⟩; (try replace hg := hg.of_drew); (first | (have f1 := hg.new (Nat.zero_lt_succ _); replace hg := hg.of_alloc) | (replace hg := hg.of_alloc) | skip); (try replace f1 := hg.cells f1 (Nat.zero_lt_succ _)); replace hG := hG.trans hg; clear hg))
  all_goals go_wp2
  all_goals go_ret
  all_goals exact ⟨rfl, hG⟩
end Go.Proofs.Ytpbcplgpbafjpab.W
