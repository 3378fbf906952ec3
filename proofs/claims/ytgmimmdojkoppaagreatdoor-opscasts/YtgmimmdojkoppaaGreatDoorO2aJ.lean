import Derived.Test.YtgmimmdojkoppaaGreatDoorO1bJ
import Derived.Deep.Cut
import Derived.Handy
/- Package ops: of a kind. -/
namespace Go.Proofs.YtgmimmdojkoppaaGreatDoor.W
open Go.ChangeShapes Go.WideShapes Go.RowKit
set_option linter.unusedVariables false
theorem eq_not (a b : Int) : (a == b) = !(a != b) := by unfold bne; cases (a == b) <;> rfl
set_option maxRecDepth 100000 in
theorem are1_c (W : World) (hb vb pb : Nat) (n : Nat) (vw vr : Value) (k kd0 : Int) (hn : 0 < n) (hm : n ≤ 1000) (hp0 : W.cell? ⟨pb, 0, none⟩ = some (.int .i64 0)) (hk0 : W.cell? ⟨vb, 0, none⟩ = some (.int .i64 kd0)) :
    Calls Tryz.prog 70 #[.agg #[.pointer (some ⟨hb, 0, none⟩), vw, .slice (some ⟨vb, 0, none⟩) n n, vr], .int .i64 k, .slice (some ⟨pb, 0, none⟩) 1 1] W fun e w' => e = .returned (.bool ((kd0 == k))) ∧ Below W.heap.size W w' := by
  have hB : Below W.heap.size W (W.alloc (.cells #[.pointer (some ⟨hb, 0, none⟩), vw, .slice (some ⟨vb, 0, none⟩) n n, vr] 83)) := (Below.refl _ W).alloc (Nat.le_refl _) _
  replace hp0 := cell_keep hB hp0
  replace hk0 := cell_keep hB hk0
  have hn0 : (0 : Int) < (n : Int) := by omega
  have e0 := World.cell?_alloc_new W #[.pointer (some ⟨hb, 0, none⟩), vw, .slice (some ⟨vb, 0, none⟩) n n, vr] 83
  rw [eq_not kd0 k]
  go_enter Tryz.func70, Tryz.ntmps70
  go_upto_region 2 with fail
  go_wp2
  refine wp_loop_rounds 2 ?_
  cases hq0 : (kd0 != k)
  rotate_left
  · rw [rounds_succ]
    go_wp2
    go_ret
    exact ⟨by rw [hq0]; rfl, hB⟩
  rw [rounds_succ]
  go_wp2
  rw [rounds_succ]
  go_wp2
  go_ret
  exact ⟨by rw [hq0]; rfl, hB⟩
set_option maxRecDepth 100000 in
theorem are2_c (W : World) (hb vb pb : Nat) (n : Nat) (vw vr : Value) (k kd0 kd1 : Int) (hn : 1 < n) (hm : n ≤ 1000) (hp0 : W.cell? ⟨pb, 0, none⟩ = some (.int .i64 0)) (hp1 : W.cell? ⟨pb, 1, none⟩ = some (.int .i64 1)) (hk0 : W.cell? ⟨vb, 0, none⟩ = some (.int .i64 kd0)) (hk1 : W.cell? ⟨vb, 5, none⟩ = some (.int .i64 kd1)) :
    Calls Tryz.prog 70 #[.agg #[.pointer (some ⟨hb, 0, none⟩), vw, .slice (some ⟨vb, 0, none⟩) n n, vr], .int .i64 k, .slice (some ⟨pb, 0, none⟩) 2 2] W fun e w' => e = .returned (.bool ((kd0 == k) && (kd1 == k))) ∧ Below W.heap.size W w' := by
  have hB : Below W.heap.size W (W.alloc (.cells #[.pointer (some ⟨hb, 0, none⟩), vw, .slice (some ⟨vb, 0, none⟩) n n, vr] 83)) := (Below.refl _ W).alloc (Nat.le_refl _) _
  replace hp0 := cell_keep hB hp0
  replace hk0 := cell_keep hB hk0
  have hn0 : (0 : Int) < (n : Int) := by omega
  replace hp1 := cell_keep hB hp1
  replace hk1 := cell_keep hB hk1
  have hn1 : (1 : Int) < (n : Int) := by omega
  have e0 := World.cell?_alloc_new W #[.pointer (some ⟨hb, 0, none⟩), vw, .slice (some ⟨vb, 0, none⟩) n n, vr] 83
  rw [eq_not kd0 k, eq_not kd1 k]
  go_enter Tryz.func70, Tryz.ntmps70
  go_upto_region 2 with fail
  go_wp2
  refine wp_loop_rounds 3 ?_
  cases hq0 : (kd0 != k)
  rotate_left
  · rw [rounds_succ]
    go_wp2
    go_ret
    exact ⟨by rw [hq0]; rfl, hB⟩
  rw [rounds_succ]
  go_wp2
  cases hq1 : (kd1 != k)
  rotate_left
  · rw [rounds_succ]
    go_wp2
    go_ret
    exact ⟨by rw [hq0, hq1]; rfl, hB⟩
  rw [rounds_succ]
  go_wp2
  rw [rounds_succ]
  go_wp2
  go_ret
  exact ⟨by rw [hq0, hq1]; rfl, hB⟩
end Go.Proofs.YtgmimmdojkoppaaGreatDoor.W
