/- HeapNeeds: whatever cell is asked about, Need tells how many units it takes; no condition. -/
import Derived.Test.YtaebnnkhjlidiaaRows
import Derived.Test.YtaebnnkhjlidiaaHeapNeedsWalkJ
import Derived.WalkKit
import Derived.ProofKit
import Derived.OpenShut
import Derived.ChangeOld
import Derived.Below
import Derived.ChangeMaps5
namespace Go.Proofs.Ytaebnnkhjlidiaa.heapNeeds
open Go.ChangeShapes Go.WideShapes Go.ChangeAt Go.RowKit
set_option linter.unusedVariables false

theorem own : ownKnob Try.prog.godebug = none := by kernel_rfl
theorem laidOut : laidOutB Try.prog = true := by kernel_rfl

theorem walk (kd0 : Int) (vw0 : Bool) (i0 : Int) (t0 : ByteArray) (ob0 ow0 : Option Addr) (bl0 bc0 wl0 wc0 : Nat) (ba0 p0 n0 : Int) (w : World)  :
    Calls Try.prog 3 #[.agg #[.int .i64 kd0, .bool vw0, .int .i64 i0, .string t0, .slice ob0 bl0 bc0, .slice ow0 wl0 wc0, .int .u64 ba0, .int .i64 p0, .int .i64 n0]] w fun e w' => e = .returned (.bool true) ∧ Below w.heap.size w w' := by
  exact W.heapNeeds_walk kd0 vw0 i0 t0 ob0 ow0 bl0 bc0 wl0 wc0 ba0 p0 n0 w 

set_option maxRecDepth 100000 in
theorem lifted (os : Os) (started : os.Started) (H : Type) (enc : TypeId × Value → H) :
    ReturnsInHanded {} Try.checked os 3 .any (Rows.heapNeedsSpec.pre6 enc Try.prog Try.f3 Rows.heapNeedsRow.domain false) (Rows.heapNeedsSpec.post enc Try.prog Try.f3 false true false false) := by
  refine returnsInHanded_of_change (C := Try.checked) own started (by kernel_rfl) Try.func3
    (ChangeSpec.witness6 (enc := enc) (C := Try.checked) false ⟨#[], #[.agg #[.int .i64 0, .bool false, .int .i64 0, .string ByteArray.empty, .slice none 0 0, .slice none 0 0, .int .u64 0, .int .i64 0, .int .i64 0]], []⟩ 8 (by kernel_rfl) (by kernel_rfl) (by kernel_rfl) (by kernel_rfl)) ?_
  intro W base args ds gs before hval0 hW hcnd _
  have hval : ∀ (j : Nat) t v, Try.f3.params[j]? = some t → args[j]? = some v → Value.okWide Try.prog W .any base t v := hval0
  have hW' := hW
  obtain ⟨p, q, hA0, hV, rfl, hfz, hnd⟩ := hW
  have hA : DataW.TrodAll enc Try.prog W 0 (fun _ => true) true Try.f3.params.toList args.toList ds p := hA0
  rw [Try.params3] at hA hval
  obtain ⟨v0, vs0, d0, ds0, p0, q0, hargs, rfl, rfl, h0, r0⟩ := trodAll_cons hA
  obtain ⟨rfl, rfl, rfl⟩ := trodAll_nil r0
  obtain rfl : args = #[v0] := by cases args; simp_all
  obtain ⟨rfl, rfl⟩ := trodVars_none hV
  have k0 := h0
  have lt0 : ∀ x ∈ p0, x.block < W.heap.size := by obtain ⟨m, hm⟩ := k0; exact DataW.trod_lt m _ _ _ hm
  obtain ⟨kd0, vw0, i0, t0, ob0, ow0, bl0, bc0, wl0, wc0, ba0, p0, n0, rfl⟩ := Go.Proofs.Ytaebnnkhjlidiaa.W.open_cell (hval 0 26 v0 rfl rfl) h0
  clear hA0 hval0
  refine (walk kd0 vw0 i0 t0 ob0 ow0 bl0 bc0 wl0 wc0 ba0 p0 n0 W ).mono fun e W' ⟨he, bel⟩ => ?_
  subst he
  exact ⟨_, rfl, _, _, _, [], _, [], hW', trodAll_mk1 (shut_bool Try.underlying4 _), (trodAll_cons_mk (Below.trod laidOut (by kernel_rfl) (of_decide_eq_true (by kernel_rfl)) k0 bel lt0) trodAll_mk0), rfl, bel.frame _, fun h => by cases h⟩

theorem over : Rows.heapNeedsRow.holds Try.pinned (OpenSpec.ofChange Rows.heapNeedsSpec) :=
  OpenClaim.holds_of_wide 3 Try.f3 rfl rfl rfl rfl rfl rfl rfl ⟨rfl, rfl, rfl, rfl, rfl⟩ rfl rfl rfl rfl rfl (by kernel_rfl) Try.func3 (by kernel_rfl)
    (of_decide_eq_true (by kernel_rfl)) (by unfold Func.isWrapper; first | (rw [if_pos (by decide +kernel)]; kernel_rfl) | (rw [if_neg (by decide +kernel)]; exact ⟨rfl, rfl⟩))
    (fun os started H enc _ => lifted os started H enc)

theorem proved : Rows.HeapNeedsSaid :=
  over
end Go.Proofs.Ytaebnnkhjlidiaa.heapNeeds
namespace Go.Proofs.Ytaebnnkhjlidiaa
theorem heapNeeds_holds : Rows.HeapNeedsSaid := heapNeeds.proved
#print axioms heapNeeds_holds
end Go.Proofs.Ytaebnnkhjlidiaa
