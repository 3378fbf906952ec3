import Derived.Test.YtmeoonnofiicpaaS8bJ
/- A store, and what it tells, wherever new blocks are laid; zero, same. -/
namespace Go.Proofs.Ytmeoonnofiicpaa.W.R5
open Go.ChangeShapes Go.WideShapes Go.RowKit Go.Shelf
set_option linter.unusedVariables false
set_option linter.unusedSimpArgs false
section
variable {W : World} {S : Nat → Prop} {sb U N rb M B0 : Nat} {A : List (Option (List Nat))} {l : List En} {v : Value}
theorem sd_of (h : St W S sb A U N) (hS : ∀ k, S k → k < W.heap.size) : ∃ R T, Sd W sb A R T ∧ R ≤ 2 * U + 64 := by
  obtain ⟨s, E, vr, vb, vf, hL, hO, f⟩ := h
  have hEl : E.length ≤ s.blks.length := by
    have h1 := ext_count f.good f.all
    have h4 : cntA A ≤ A.length := List.length_filter_le _ _
    have h5 := f.all.1
    unfold extL trE at h1
    rw [List.length_append, List.length_map] at h1
    omega
  have hn := f.num
  have hn9 := f.n9
  have h5 := f.all.1
  have lay : ∀ W', Below W.heap.size W W' → Lay W' sb vr vb vf s := fun W' hB => hL.kept (hB.block _ (hS _ hO.sb)) (fun k e => hB.block _ (hS _ (hO.row k e))) (fun k e => hB.block _ (hS _ (hO.blk k e))) (fun k e => hB.block _ (hS _ (hO.free k e)))
  refine ⟨s.row.length, extL s E, ⟨fun W' hB => ⟨vr, vb, vf, s, E, lay W' hB, f.fit, f.good, by omega, by omega, rfl⟩, fun W' hB => span_c (lay W' hB), fun W' hB => used_st (S := S) ⟨s, E, vr, vb, vf, lay W' hB, hO, f⟩, lie_ext f⟩, f.row⟩
/-- the greatest Used that there was may be more -/
theorem St.up {U' N' : Nat} (h : St W S sb A U N) (hU : U ≤ U') (hU9 : U' ≤ 100000000000) (hN : N ≤ N') (hN9 : N' ≤ 100000000) : St W S sb A U' N' := by
  obtain ⟨s, E, vr, vb, vf, hL, hO, f⟩ := h
  exact ⟨s, E, vr, vb, vf, hL, hO, ⟨f.good, f.all, f.sum, f.lens, by have := f.row; omega, by have := f.top; omega, by have := f.num; omega, hU9, hN9⟩⟩
theorem zero_some (h : Rs B0 W rb A M l v) {id : Nat} {x : List Nat} (hx : A[id]? = some (some x)) : Calls Try.prog 25 #[(Value.pointer (some ⟨rb, 0, none⟩)), .int .i64 id] W fun e w' => e = .returned (.bool (decide (x.length = 0))) ∧ Below W.heap.size W w' := by
  have cl := rlen_some h hx
  clear h hx
  by_cases hz : x.length = 0
  · rw [hz] at cl ⊢
    go_enter Try.func25, Try.ntmps25
    go_wp2_with (go_at_call 16; (with_reducible refine cl.mono ?_); rintro e w2 ⟨rfl, b2⟩; clear cl)
    go_ret
    exact ⟨rfl, b2⟩
  · rw [decide_eq_false hz]
    have hz2 : (((x.length : Nat) : Int) == 0) = false := by rw [beq_eq_false_iff_ne]; omega
    generalize ((x.length : Nat) : Int) = L at *
    go_enter Try.func25, Try.ntmps25
    go_wp2_with (go_at_call 16; (with_reducible refine cl.mono ?_); rintro e w2 ⟨rfl, b2⟩; clear cl)
    go_ret
    exact ⟨rfl, b2⟩
end
end Go.Proofs.Ytmeoonnofiicpaa.W.R5
