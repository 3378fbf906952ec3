/- ValueNeeds: whatever plain value is boxed in a heap of so many units: what needs a cell is refused where there is no room, what needs none never is; no condition. -/
import Derived.Test.YtaebnnkhjlidiabRows
import Derived.Test.YtaebnnkhjlidiabValueNeedsWalkJ
import Derived.WalkKit
import Derived.ProofKit
import Derived.OpenShut
import Derived.ChangeOld
import Derived.Below
import Derived.ChangeMaps5
namespace Go.Proofs.Ytaebnnkhjlidiab.valueNeeds
open Go.ChangeShapes Go.WideShapes Go.ChangeAt Go.RowKit
set_option linter.unusedVariables false

theorem own : ownKnob Try.prog.godebug = none := by kernel_rfl
theorem laidOut : laidOutB Try.prog = true := by kernel_rfl

theorem walk (kd0 i0 bi0 : Int) (t0 : ByteArray) (re0 : Int) (wk0 : (Lit.int .i64 kd0).wf = true) (wi0 : (Lit.int .i64 i0).wf = true) (wb0 : (Lit.int .u64 bi0).wf = true) (wt0 : t0.size ≤ maxLen) (wr0 : (Lit.int .u64 re0).wf = true) (n1 : Int) (x1 : (Lit.int .i64 n1).wf = true) (w : World)  :
    Calls Try.prog 6 #[.agg #[.int .i64 kd0, .int .i64 i0, .int .u64 bi0, .string t0, .int .u64 re0], .int .i64 n1] w fun e w' => e = .returned (.bool true) ∧ Below w.heap.size w w' := by
  exact W.valueNeeds_walk kd0 i0 bi0 t0 re0 wk0 wi0 wb0 wt0 wr0 n1 x1 w 

set_option maxRecDepth 100000 in
theorem lifted (os : Os) (started : os.Started) (H : Type) (enc : TypeId × Value → H) :
    ReturnsInHanded {} Try.checked os 6 .any (Rows.valueNeedsSpec.pre6 enc Try.prog Try.f6 Rows.valueNeedsRow.domain false) (Rows.valueNeedsSpec.post enc Try.prog Try.f6 false true false false) := by
  refine returnsInHanded_of_change (C := Try.checked) own started (by kernel_rfl) Try.func6
    (ChangeSpec.witness6 (enc := enc) (C := Try.checked) false ⟨#[], #[.agg #[.int .i64 0, .int .i64 0, .int .u64 0, .string ByteArray.empty, .int .u64 0], .int .i64 0], []⟩ 8 (by kernel_rfl) (by kernel_rfl) (by kernel_rfl) (by kernel_rfl)) ?_
  intro W base args ds gs before hval0 hW hcnd _
  have hval : ∀ (j : Nat) t v, Try.f6.params[j]? = some t → args[j]? = some v → Value.okWide Try.prog W .any base t v := hval0
  have hW' := hW
  obtain ⟨p, q, hA0, hV, rfl, hfz, hnd⟩ := hW
  have hA : DataW.TrodAll enc Try.prog W 0 (fun _ => true) true Try.f6.params.toList args.toList ds p := hA0
  rw [Try.params6] at hA hval
  obtain ⟨v0, vs0, d0, ds0, p0, q0, hargs, rfl, rfl, h0, r0⟩ := trodAll_cons hA
  obtain ⟨v1, vs1, d1, ds1, p1, q1, rfl, rfl, rfl, h1, r1⟩ := trodAll_cons r0
  obtain ⟨rfl, rfl, rfl⟩ := trodAll_nil r1
  obtain rfl : args = #[v0, v1] := by cases args; simp_all
  obtain ⟨rfl, rfl⟩ := trodVars_none hV
  have k0 := h0
  have lt0 : ∀ x ∈ p0, x.block < W.heap.size := by obtain ⟨m, hm⟩ := k0; exact DataW.trod_lt m _ _ _ hm
  have k1 := h1
  have lt1 : ∀ x ∈ p1, x.block < W.heap.size := by obtain ⟨m, hm⟩ := k1; exact DataW.trod_lt m _ _ _ hm
  obtain ⟨kd0, i0, bi0, t0, re0, rfl, wk0, wi0, wb0, wt0, wr0⟩ := Go.Proofs.Ytaebnnkhjlidiab.W.open_value (hval 0 40 v0 rfl rfl) h0
  obtain ⟨n1, rfl, rfl, rfl, x1⟩ := open_int Try.underlying3 (hval 1 3 v1 rfl rfl) h1
  clear hA0 hval0
  refine (walk kd0 i0 bi0 t0 re0 wk0 wi0 wb0 wt0 wr0 n1 x1 W ).mono fun e W' ⟨he, bel⟩ => ?_
  subst he
  exact ⟨_, rfl, _, _, _, [], _, [], hW', trodAll_mk1 (shut_bool Try.underlying4 _), (trodAll_cons_mk (Below.trod laidOut (by kernel_rfl) (of_decide_eq_true (by kernel_rfl)) k0 bel lt0) (trodAll_cons_mk (Below.trod laidOut (by kernel_rfl) (of_decide_eq_true (by kernel_rfl)) k1 bel lt1) trodAll_mk0)), rfl, bel.frame _, fun h => by cases h⟩

theorem over : Rows.valueNeedsRow.holds Try.pinned (OpenSpec.ofChange Rows.valueNeedsSpec) :=
  OpenClaim.holds_of_wide 6 Try.f6 rfl rfl rfl rfl rfl rfl rfl ⟨rfl, rfl, rfl, rfl, rfl⟩ rfl rfl rfl rfl rfl (by kernel_rfl) Try.func6 (by kernel_rfl)
    (of_decide_eq_true (by kernel_rfl)) (by unfold Func.isWrapper; first | (rw [if_pos (by decide +kernel)]; kernel_rfl) | (rw [if_neg (by decide +kernel)]; exact ⟨rfl, rfl⟩))
    (fun os started H enc _ => lifted os started H enc)

theorem proved : Rows.ValueNeedsSaid :=
  over
end Go.Proofs.Ytaebnnkhjlidiab.valueNeeds
namespace Go.Proofs.Ytaebnnkhjlidiab
theorem valueNeeds_holds : Rows.ValueNeedsSaid := valueNeeds.proved
#print axioms valueNeeds_holds
end Go.Proofs.Ytaebnnkhjlidiab
