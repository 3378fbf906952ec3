/- For every two numbers, of whatever kinds, the statement NumOrders returns true: less, less or the same, and the same are the document's. -/
import Derived.Test.YtpbcplgpbafjpaaRows
import Derived.Test.YtpbcplgpbafjpaaNumOrdersWalk
import Derived.Test.YtpbcplgpbafjpaaNumOpen
import Derived.WalkKit
import Derived.ProofKit
import Derived.ChangeOld
import Derived.Below
import Derived.OpenShut
namespace Go.Proofs.Ytpbcplgpbafjpaa.numOrders
open Go.ChangeShapes Go.WideShapes Go.ChangeAt Go.RowKit
set_option linter.unusedVariables false

theorem own : ownKnob Try.prog.godebug = none := by kernel_rfl

theorem walk (b0 : Bool) (i0 u0 : Int) (x0 : (Lit.int .i64 i0).wf = true) (y0 : (Lit.int .u64 u0).wf = true) (b1 : Bool) (i1 u1 : Int) (x1 : (Lit.int .i64 i1).wf = true) (y1 : (Lit.int .u64 u1).wf = true) (w : World) :
    Calls Try.prog 6 #[.agg #[.bool b0, .int .i64 i0, .int .u64 u0], .agg #[.bool b1, .int .i64 i1, .int .u64 u1]] w fun e w' => e = .returned (.bool true) ∧ Below w.heap.size w w' := by
  exact W.numOrders_walk b0 i0 u0 x0 y0 b1 i1 u1 x1 y1 w

set_option maxRecDepth 100000 in
theorem lifted (os : Os) (started : os.Started) (H : Type) (enc : TypeId × Value → H) :
    ReturnsInHanded {} Try.checked os 6 .any (Rows.numOrdersSpec.pre6 enc Try.prog Try.f6 Rows.numOrdersRow.domain false) (Rows.numOrdersSpec.post enc Try.prog Try.f6 false true false false) := by
  refine returnsInHanded_of_change (C := Try.checked) own started (by kernel_rfl) Try.func6
    (ChangeSpec.witness6 (enc := enc) (C := Try.checked) false ⟨#[], #[.agg #[.bool false, .int .i64 0, .int .u64 0], .agg #[.bool false, .int .i64 0, .int .u64 0]], []⟩ 8 (by kernel_rfl) (by kernel_rfl) (by kernel_rfl) (by kernel_rfl)) ?_
  intro W base args ds gs before hval0 hW hcnd _
  have hval : ∀ (j : Nat) t v, Try.f6.params[j]? = some t → args[j]? = some v → Value.okWide Try.prog W .any base t v := hval0
  have hW' := hW
  obtain ⟨p, q, hA0, hV, rfl, hfz, hnd⟩ := hW
  have hA : DataW.TrodAll enc Try.prog W 0 (fun _ => true) true Try.f6.params.toList args.toList ds p := hA0
  rw [Try.params6] at hA hval
  obtain ⟨v0, vs0, d0, ds0, p0, q0, hargs, rfl, rfl, h0, r0⟩ := trodAll_cons hA
  obtain ⟨v1, vs1, d1, ds1, p1, q1, rfl, rfl, rfl, h1, r1⟩ := trodAll_cons r0
  obtain ⟨rfl, rfl, rfl⟩ := trodAll_nil r1
  obtain rfl : args = #[v0, v1] := by cases args; simp_all
  obtain ⟨rfl, rfl⟩ := trodVars_none hV
  obtain ⟨b0, i0, u0, rfl, rfl, rfl, x0, y0⟩ := Go.Proofs.Ytpbcplgpbafjpaa.W.open_num (hval 0 24 v0 rfl rfl) h0
  obtain ⟨b1, i1, u1, rfl, rfl, rfl, x1, y1⟩ := Go.Proofs.Ytpbcplgpbafjpaa.W.open_num (hval 1 24 v1 rfl rfl) h1
  clear hA0 hval0
  simp only [List.append_nil] at hW'
  refine (walk b0 i0 u0 x0 y0 b1 i1 u1 x1 y1 W).mono fun e W' ⟨he, hg⟩ => ?_
  subst he
  exact ⟨_, rfl, _, _, _, [], [], [], hW', (trodAll_cons_mk (shut_bool Try.underlying4 _) trodAll_mk0), (trodAll_cons_mk (Go.Proofs.Ytpbcplgpbafjpaa.W.shut_num b0 x0 y0) (trodAll_cons_mk (Go.Proofs.Ytpbcplgpbafjpaa.W.shut_num b1 x1 y1) trodAll_mk0)), rfl, hg.frame _, fun h => by cases h⟩

theorem over : Rows.numOrdersRow.holds Try.pinned (OpenSpec.ofChange Rows.numOrdersSpec) :=
  OpenClaim.holds_of_wide 6 Try.f6 rfl rfl rfl rfl rfl rfl rfl ⟨rfl, rfl, rfl, rfl, rfl⟩ rfl rfl rfl rfl rfl (by kernel_rfl) Try.func6 (by kernel_rfl)
    (of_decide_eq_true (by kernel_rfl)) (by unfold Func.isWrapper; first | (rw [if_pos (by decide +kernel)]; kernel_rfl) | (rw [if_neg (by decide +kernel)]; exact ⟨rfl, rfl⟩))
    (fun os started H enc _ => lifted os started H enc)

theorem proved : Rows.NumOrdersSaid :=
  over
end Go.Proofs.Ytpbcplgpbafjpaa.numOrders
namespace Go.Proofs.Ytpbcplgpbafjpaa
theorem numOrders_holds : Rows.NumOrdersSaid := numOrders.proved
#print axioms numOrders_holds
end Go.Proofs.Ytpbcplgpbafjpaa
