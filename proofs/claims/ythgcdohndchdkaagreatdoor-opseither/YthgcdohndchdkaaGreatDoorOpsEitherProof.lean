/- For any two numbers (whole ones of 64 bits, or patterns of 64 bits) the statement OpsEither returns true and leaves what was there as it was; no condition. -/
import Derived.Test.YthgcdohndchdkaaGreatDoorRows
import Derived.Test.YthgcdohndchdkaaGreatDoorCards
import Derived.Test.YthgcdohndchdkaaGreatDoorTie
import Derived.Test.YthgcdohndchdkaaGreatDoorLaid10J
import Derived.Test.YthgcdohndchdkaaGreatDoorOpsEitherWalkJ
import Derived.Test.YthgcdohndchdkaaGreatDoorNumOpenZJ
import Derived.WalkKit
import Derived.ProofKit
import Derived.ChangeOld
import Derived.Below
import Derived.OpenShut
import Derived.ShutString
import Derived.SevenTiedAt
import Derived.LaidMore
import Derived.Stop.Joined
namespace Go.Proofs.YthgcdohndchdkaaGreatDoor.opsEither
open Go.ChangeShapes Go.WideShapes Go.ChangeAt Go.RowKit
open Go.ChangeMaps (open_string shut_string)
set_option linter.unusedVariables false

theorem walk (b0 : Bool) (i0 u0 : Int) (b1 : Bool) (i1 u1 : Int) (x0 : (Lit.int .i64 i0).wf = true) (y0 : (Lit.int .u64 u0).wf = true) (x1 : (Lit.int .i64 i1).wf = true) (y1 : (Lit.int .u64 u1).wf = true) (w : World) :
    Calls Tryz.prog 5 #[.agg #[.bool b0, .int .i64 i0, .int .u64 u0], .agg #[.bool b1, .int .i64 i1, .int .u64 u1]] w fun e w' => e = .returned (.bool true) ∧ Below w.heap.size w w' := by
  exact W.Nu.opsEither_walk b0 i0 u0 b1 i1 u1 x0 y0 x1 y1 w

set_option maxRecDepth 100000 in
theorem lifted (os : Os) (started : os.Started) (H : Type) (enc : TypeId × Value → H) :
    ReturnsInHanded {} Tryz.checked os 5 .any (fun w args => (Rows.opsEitherSpec.pre enc Tryz.prog Tryz.f5 [] false w args ∧ laidMetH Tryz.prog W.laid4 w) ∧ sizedMet enc Tryz.prog Tryz.f5 (OpenSpec.ofChange Rows.opsEitherSpec) false w args)
      (Rows.opsEitherSpec.post enc Tryz.prog Tryz.f5 false true false false) := by
  refine returnsInHanded_of_change_and (C := Tryz.checked) (X := fun w _ => laidMetH Tryz.prog W.laid4 w) (fun _ _ _ hh h => h.of_heap hh) W.own started (by kernel_rfl) Tryz.func5
    (ChangeSpec.witness_shaped (enc := enc) (C := Tryz.checked) (os := os) (X := fun w _ => laidMetH Tryz.prog W.laid4 w) false (World.doorLaid Tryz.prog 400 os) #[.agg #[.bool false, .int .i64 0, .int .u64 0], .agg #[.bool false, .int .i64 0, .int .u64 0]] 8 rfl (World.shaped_of_RefB (by kernel_rfl) (by kernel_rfl)) (by kernel_rfl) (by kernel_rfl) (by kernel_rfl) (W.door_met os _)) ?_
  intro V base args ds gs before hval0 hW _ _ hL _
  have hval : ∀ (j : Nat) t v, Tryz.f5.params[j]? = some t → args[j]? = some v → Value.okWide Tryz.prog V .any base t v := hval0
  have hW' := hW
  obtain ⟨p, q, hA0, hV, rfl, hfz, hnd⟩ := hW
  have hA : DataW.TrodAll enc Tryz.prog V 0 (fun _ => true) true Tryz.f5.params.toList args.toList ds p := hA0
  rw [Tryz.params5] at hA hval
  obtain ⟨v0, vs0, d0, ds0, p0, q0, hargs, rfl, rfl, h0, r0⟩ := trodAll_cons hA
  obtain ⟨v1, vs1, d1, ds1, p1, q1, rfl, rfl, rfl, h1, r1⟩ := trodAll_cons r0
  obtain ⟨rfl, rfl, rfl⟩ := trodAll_nil r1
  obtain rfl : args = #[v0, v1] := by cases args; simp_all
  obtain ⟨rfl, rfl⟩ := trodVars_none hV
  obtain ⟨b0, i0, u0, rfl, rfl, rfl, x0, y0⟩ := Go.Proofs.YthgcdohndchdkaaGreatDoor.W.Nu.open_num (hval 0 44 v0 rfl rfl) h0
  obtain ⟨b1, i1, u1, rfl, rfl, rfl, x1, y1⟩ := Go.Proofs.YthgcdohndchdkaaGreatDoor.W.Nu.open_num (hval 1 44 v1 rfl rfl) h1
  clear hA0 hval0
  simp only [List.append_nil] at hW'
  refine (walk b0 i0 u0 b1 i1 u1 x0 y0 x1 y1 V).mono fun e V' ⟨he, hg⟩ => ?_
  subst he
  exact ⟨_, rfl, _, _, _, [], [], [], hW', (trodAll_cons_mk (shut_bool Tryz.underlying4 _) trodAll_mk0), (trodAll_cons_mk (Go.Proofs.YthgcdohndchdkaaGreatDoor.W.Nu.shut_num b0 x0 y0) (trodAll_cons_mk (Go.Proofs.YthgcdohndchdkaaGreatDoor.W.Nu.shut_num b1 x1 y1) trodAll_mk0)), rfl, hg.frame _, fun h => by cases h⟩

theorem over : Rows.OpsEitherSaid :=
  OpenClaim.holds_of_wide 5 Tryz.f5 rfl rfl rfl rfl rfl rfl rfl ⟨rfl, rfl, rfl, rfl, rfl⟩ rfl rfl rfl rfl rfl (by kernel_rfl) Tryz.func5 (by kernel_rfl)
    (of_decide_eq_true (by kernel_rfl)) (by unfold Func.isWrapper; first | (rw [if_pos (by decide +kernel)]; kernel_rfl) | (rw [if_neg (by decide +kernel)]; exact ⟨rfl, rfl⟩))
    (fun os started H enc _ => lifted os started H enc)

theorem proved : Rows.OpsEitherCardSaid :=
  Claim7.holds_tied_plain_at .later [] [.data, .data, .data, .data] true (true, "7cdf2c59cf23ddd9ace8d89b4aaee04b8d7c99e0bd8c81c0f09e51fa5935906e") true
    over (fun _ h => by cases h) (by kernel_rfl) (fun _ h => by cases h) opsEither_row_tie rfl ⟨rfl, rfl⟩ (by kernel_rfl) rfl
    (fun f fn hf hfn => by
      obtain rfl : f = 5 := Option.some.inj ((show Tryz.prog.funcNamed Rows.opsEitherRow.func = some 5 by kernel_rfl).symm.trans hf) |>.symm
      obtain rfl : fn = Tryz.f5 := (Option.some.inj (Tryz.func5.symm.trans hfn)).symm
      exact ⟨by kernel_rfl, fun j t ht => by
        rw [Tryz.params5] at ht
        have hm : t ∈ [44, 44] := by simpa using Array.mem_of_getElem? ht
        have hall : ([44, 44].all fun u => !Tryz.prog.wantsStandIn u) = true := by kernel_rfl
        exact (show Tryz.prog.wantsStandIn t = false by simpa using List.all_eq_true.1 hall t hm)⟩)
    (by kernel_rfl)
end Go.Proofs.YthgcdohndchdkaaGreatDoor.opsEither
namespace Go.Proofs.YthgcdohndchdkaaGreatDoor
theorem opsEither_holds : Rows.OpsEitherCardSaid := opsEither.proved
#print axioms opsEither_holds
end Go.Proofs.YthgcdohndchdkaaGreatDoor
