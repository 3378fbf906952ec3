/- For every three numbers, of whatever kinds, the statement NumThree returns true: just one of less, the same, greater; less and the same lead on, across whole numbers and doubles. -/
import Derived.Test.YtpbcplgpbafjpaaRows
import Derived.Test.YtpbcplgpbafjpaaNumThreeWalk
import Derived.Test.YtpbcplgpbafjpaaNumOpen
import Derived.WalkKit
import Derived.ProofKit
import Derived.ChangeOld
import Derived.Below
import Derived.OpenShut
namespace Go.Proofs.Ytpbcplgpbafjpaa.numThree
open Go.ChangeShapes Go.WideShapes Go.ChangeAt Go.RowKit
set_option linter.unusedVariables false

theorem own : ownKnob Try.prog.godebug = none := by kernel_rfl

theorem walk (b0 : Bool) (i0 u0 : Int) (x0 : (Lit.int .i64 i0).wf = true) (y0 : (Lit.int .u64 u0).wf = true) (b1 : Bool) (i1 u1 : Int) (x1 : (Lit.int .i64 i1).wf = true) (y1 : (Lit.int .u64 u1).wf = true) (b2 : Bool) (i2 u2 : Int) (x2 : (Lit.int .i64 i2).wf = true) (y2 : (Lit.int .u64 u2).wf = true) (w : World) :
    Calls Try.prog 7 #[.agg #[.bool b0, .int .i64 i0, .int .u64 u0], .agg #[.bool b1, .int .i64 i1, .int .u64 u1], .agg #[.bool b2, .int .i64 i2, .int .u64 u2]] w fun e w' => e = .returned (.bool true) ∧ Below w.heap.size w w' := by
  exact W.numThree_walk b0 i0 u0 x0 y0 b1 i1 u1 x1 y1 b2 i2 u2 x2 y2 w

set_option maxRecDepth 100000 in
theorem lifted (os : Os) (started : os.Started) (H : Type) (enc : TypeId × Value → H) :
    ReturnsInHanded {} Try.checked os 7 .any (Rows.numThreeSpec.pre6 enc Try.prog Try.f7 Rows.numThreeRow.domain false) (Rows.numThreeSpec.post enc Try.prog Try.f7 false true false false) := by
  refine returnsInHanded_of_change (C := Try.checked) own started (by kernel_rfl) Try.func7
    (ChangeSpec.witness6 (enc := enc) (C := Try.checked) false ⟨#[], #[.agg #[.bool false, .int .i64 0, .int .u64 0], .agg #[.bool false, .int .i64 0, .int .u64 0], .agg #[.bool false, .int .i64 0, .int .u64 0]], []⟩ 8 (by kernel_rfl) (by kernel_rfl) (by kernel_rfl) (by kernel_rfl)) ?_
  intro W base args ds gs before hval0 hW hcnd _
  have hval : ∀ (j : Nat) t v, Try.f7.params[j]? = some t → args[j]? = some v → Value.okWide Try.prog W .any base t v := hval0
  have hW' := hW
  obtain ⟨p, q, hA0, hV, rfl, hfz, hnd⟩ := hW
  have hA : DataW.TrodAll enc Try.prog W 0 (fun _ => true) true Try.f7.params.toList args.toList ds p := hA0
  rw [Try.params7] at hA hval
  obtain ⟨v0, vs0, d0, ds0, p0, q0, hargs, rfl, rfl, h0, r0⟩ := trodAll_cons hA
  obtain ⟨v1, vs1, d1, ds1, p1, q1, rfl, rfl, rfl, h1, r1⟩ := trodAll_cons r0
  obtain ⟨v2, vs2, d2, ds2, p2, q2, rfl, rfl, rfl, h2, r2⟩ := trodAll_cons r1
  obtain ⟨rfl, rfl, rfl⟩ := trodAll_nil r2
  obtain rfl : args = #[v0, v1, v2] := by cases args; simp_all
  obtain ⟨rfl, rfl⟩ := trodVars_none hV
  obtain ⟨b0, i0, u0, rfl, rfl, rfl, x0, y0⟩ := Go.Proofs.Ytpbcplgpbafjpaa.W.open_num (hval 0 24 v0 rfl rfl) h0
  obtain ⟨b1, i1, u1, rfl, rfl, rfl, x1, y1⟩ := Go.Proofs.Ytpbcplgpbafjpaa.W.open_num (hval 1 24 v1 rfl rfl) h1
  obtain ⟨b2, i2, u2, rfl, rfl, rfl, x2, y2⟩ := Go.Proofs.Ytpbcplgpbafjpaa.W.open_num (hval 2 24 v2 rfl rfl) h2
  clear hA0 hval0
  simp only [List.append_nil] at hW'
  refine (walk b0 i0 u0 x0 y0 b1 i1 u1 x1 y1 b2 i2 u2 x2 y2 W).mono fun e W' ⟨he, hg⟩ => ?_
  subst he
  exact ⟨_, rfl, _, _, _, [], [], [], hW', (trodAll_cons_mk (shut_bool Try.underlying4 _) trodAll_mk0), (trodAll_cons_mk (Go.Proofs.Ytpbcplgpbafjpaa.W.shut_num b0 x0 y0) (trodAll_cons_mk (Go.Proofs.Ytpbcplgpbafjpaa.W.shut_num b1 x1 y1) (trodAll_cons_mk (Go.Proofs.Ytpbcplgpbafjpaa.W.shut_num b2 x2 y2) trodAll_mk0))), rfl, hg.frame _, fun h => by cases h⟩

theorem over : Rows.numThreeRow.holds Try.pinned (OpenSpec.ofChange Rows.numThreeSpec) :=
  OpenClaim.holds_of_wide 7 Try.f7 rfl rfl rfl rfl rfl rfl rfl ⟨rfl, rfl, rfl, rfl, rfl⟩ rfl rfl rfl rfl rfl (by kernel_rfl) Try.func7 (by kernel_rfl)
    (of_decide_eq_true (by kernel_rfl)) (by unfold Func.isWrapper; first | (rw [if_pos (by decide +kernel)]; kernel_rfl) | (rw [if_neg (by decide +kernel)]; exact ⟨rfl, rfl⟩))
    (fun os started H enc _ => lifted os started H enc)

theorem proved : Rows.NumThreeSaid :=
  over
end Go.Proofs.Ytpbcplgpbafjpaa.numThree
namespace Go.Proofs.Ytpbcplgpbafjpaa
theorem numThree_holds : Rows.NumThreeSaid := numThree.proved
#print axioms numThree_holds
end Go.Proofs.Ytpbcplgpbafjpaa
