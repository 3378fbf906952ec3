/- The walk of the statement NumDoubles, over its calls' answers. -/
import Derived.Test.YtpbcplgpbafjpabNumAw
import Derived.Test.YtpbcplgpbafjpabNumX
import Derived.Test.YtpbcplgpbafjpabNumS
import Derived.OpenShut
import Derived.RowKit3
import Derived.Deep.DeepCutAuto
namespace Go.Proofs.Ytpbcplgpbafjpab.W
open Go.ChangeShapes Go.WideShapes Go.RowKit
theorem Gr.calls {P : Program} {f : FuncId} {args : Array Value} {w : World} {n : Nat} {os : Array Obj} {v : Value} (h : Calls P f args (Sort.grow (w.drewN n) os) fun e w' => e = .returned v ∧ Gr (Sort.grow (w.drewN n) os) w') :
    Calls P f args (Sort.grow (w.drewN n) os) fun e w'' => e = .returned v ∧ ∃ p : GrownBy, w'' = Sort.grow (w.drewN p.n) p.os := Calls.grown_of h
theorem mixed : Try.prog.follows .mixedOrders = true := by kernel_rfl
set_option maxHeartbeats 1000000 in
theorem numDoubles_out (a b : Int) (w : World) (hC : b < 0 ∨ (¬ b < 0 ∧ 62 < b)) :
    Calls Try.prog 6 #[.int .i64 a, .int .i64 b] w fun e w' => e = .returned (.bool true) ∧ Gr w w' := by
  rcases hC with h1 | ⟨h1, h2⟩
  all_goals
    go_enter Try.func6, Try.ntmps6
    go_wp2
    go_ret
    exact ⟨rfl, Gr.refl _⟩
set_option linter.unusedVariables false in
set_option maxRecDepth 100000 in
set_option maxHeartbeats 8000000 in
theorem numDoubles_core (a b s x e yi yu f : Int) (yw : Bool) (w : World) (h0 : 0 ≤ b) (h1 : ¬ 62 < b) (hp1 : wrap64 (1 * 2 ^ b.toNat) = s) (hp2 : wrap64 (2 ^ b.toNat) = s) (hp3 : IntKind.i64.wrap (2 ^ b.toNat) = s)
    (hC : (e = 0 ∧ f = 0 ∧ yw = true ∧ yi = x ∧ yu = 0) ∨ (e = 10 ∧ f = 10))
    (c1 : ∀ w, Calls Try.prog 15 #[.int .i64 a, .int .i64 b] w fun o w' => o = .returned (.tuple #[.int .i64 x, .int .i64 e]) ∧ w' = w)
    (c2 : ∀ w, Calls Try.prog 12 #[.agg #[.bool true, .int .i64 a, .int .u64 0], .agg #[.bool true, .int .i64 s, .int .u64 0]] w fun o w' => o = .returned (.tuple #[.agg #[.bool yw, .int .i64 yi, .int .u64 yu], .int .i64 f]) ∧ Gr w w') :
    Calls Try.prog 6 #[.int .i64 a, .int .i64 b] w fun e w' => e = .returned (.bool true) ∧ Gr w w' := by
  have HC := hid hC
  clear hC
  have h0' : ¬ b < 0 := by omega
  go_enter Try.func6, Try.ntmps6
  go_upto_region 4 with (go_at_call 15; (with_reducible refine (c1 _).mono ?_); rintro e w1 ⟨rfl, rfl⟩)
  have hG := Gr.refl w1
  go_cut [7, 8] (fun p o wc => ∃ bx, p = .pointer (some ⟨bx, 0, none⟩) ∧ o = .int .i64 f ∧ (∀ i, wc.cell? ⟨bx, i, none⟩ = #[Value.bool yw, .int .i64 yi, .int .u64 yu][i]?) ∧ Gr w1 wc)
  case first =>
    clear c1
    go_region_held3 (fun _ => True) (trivial) (first | (go_at_call 10; refine (lawWhole_c _ _).mono ?_; rintro e w' ⟨rfl, hg⟩; (first | (have h3 := Gr.one_drew hg (Nat.zero_lt_succ _); have hb := hG.size; clear hg; obtain ⟨fx, fz, hg⟩ := h3) | (have h3 := Gr.one hg (Nat.zero_lt_succ _); have hb := hG.size; clear hg; obtain ⟨fx, fz, hg⟩ := h3) | (replace hg := hg.of_drew) | skip); (try replace fz := hg.thaw fx (Nat.zero_lt_succ _) fz); (try replace fx := hg.cells fx (Nat.zero_lt_succ _)); replace hG := hG.trans hg; clear hg) | (go_at_call 12; (with_reducible refine (c2 _).mono ?_); rintro e wX ⟨rfl, hg⟩; (first | (have h3 := Gr.one_drew hg (Nat.zero_lt_succ _); have hb := hG.size; clear hg; obtain ⟨fx, fz, hg⟩ := h3) | (have h3 := Gr.one hg (Nat.zero_lt_succ _); have hb := hG.size; clear hg; obtain ⟨fx, fz, hg⟩ := h3) | (replace hg := hg.of_drew) | skip); (try replace fz := hg.thaw fx (Nat.zero_lt_succ _) fz); (try replace fx := hg.cells fx (Nat.zero_lt_succ _)); replace hG := hG.trans hg; clear hg))
    all_goals go_wp2
    all_goals go_meet
    all_goals first | exact ⟨_, rfl, rfl, fun i => World.cell?_alloc_at _ _ _ i rfl, hG.alloc _⟩ | exact ⟨_, rfl, rfl, stored3 fx _ _ _, hG.store3 hb _ _ _⟩
  case rest =>
    clear hG c1 c2
    obtain ⟨bx, rfl, rfl, fx, hG⟩ := hcut
    go_upto_region 5 with fail
    rcases HC.out with ⟨rfl, rfl, rfl, rfl, rfl⟩ | ⟨rfl, rfl⟩
    · have ga : ∀ (n : Nat) (os : Array Obj) (i : Nat), (Sort.grow (wc.drewN n) os).cell? ⟨bx, i, none⟩ = #[Value.bool true, .int .i64 yi, .int .u64 0][i]? := fun n os => (show Gr wc (Sort.grow (wc.drewN n) os) from ⟨n, os, rfl⟩).cells fx (Nat.zero_lt_succ _)
      clear HC
      refine wp_region_quiet_grown mixed (by kernel_rfl) ?_
      repeat (go_big_quiet_step (first | (go_at_call 10; with_reducible exact Gr.calls (lawWhole_c _ _)) | (go_at_call 14; with_reducible exact Gr.calls (awake_c _))))
      refine wpQuiet_nil ?_
      intro _ hw'
      obtain ⟨⟨nq, osq⟩, hw''⟩ := hw'
      subst hw''
      go_wp2
      go_ret
      exact ⟨rfl, hG.trans ⟨nq, osq, rfl⟩⟩
    · have ga : ∀ (n : Nat) (os : Array Obj) (i : Nat), (Sort.grow (wc.drewN n) os).cell? ⟨bx, i, none⟩ = #[Value.bool yw, .int .i64 yi, .int .u64 yu][i]? := fun n os => (show Gr wc (Sort.grow (wc.drewN n) os) from ⟨n, os, rfl⟩).cells fx (Nat.zero_lt_succ _)
      clear HC
      refine wp_region_quiet_grown mixed (by kernel_rfl) ?_
      repeat (go_big_quiet_step (first | (go_at_call 10; with_reducible exact Gr.calls (lawWhole_c _ _)) | (go_at_call 14; with_reducible exact Gr.calls (awake_c _))))
      refine wpQuiet_nil ?_
      intro _ hw'
      obtain ⟨⟨nq, osq⟩, hw''⟩ := hw'
      subst hw''
      go_wp2
      go_ret
      exact ⟨rfl, hG.trans ⟨nq, osq, rfl⟩⟩
end Go.Proofs.Ytpbcplgpbafjpab.W
