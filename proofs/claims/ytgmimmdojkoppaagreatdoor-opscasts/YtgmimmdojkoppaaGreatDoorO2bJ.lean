import Derived.Test.YtgmimmdojkoppaaGreatDoorO2aJ
import Derived.Test.YtgmimmdojkoppaaGreatDoorBase27
/- Package ops: values as numbers. -/
namespace Go.Proofs.YtgmimmdojkoppaaGreatDoor.W.Nu
open Go.ChangeShapes Go.WideShapes Go.RowKit
set_option linter.unusedVariables false
theorem number_i (i b r : Int) (s : ByteArray) (w : World) : Calls Tryz.prog 93 #[.agg #[.int .i64 2, .int .i64 i, .int .u64 b, .string s, .int .u64 r]] w fun e w' => e = .returned (.tuple #[.agg #[.bool true, .int .i64 i, .int .u64 0], .bool true]) ∧ Gr w w' := by
  go_enter Tryz.func93, Tryz.ntmps93
  go_wp2
  exact bodyPost_ret (v := .tuple #[.agg #[.bool true, .int .i64 i, .int .u64 0], .bool true]) (by simp [results, Tryz.results93, go_sem]) rfl ⟨rfl, ((Gr.refl _).alloc _).alloc _⟩
theorem number_f (i b r : Int) (s : ByteArray) (w : World) : Calls Tryz.prog 93 #[.agg #[.int .i64 3, .int .i64 i, .int .u64 b, .string s, .int .u64 r]] w fun e w' => e = .returned (.tuple #[.agg #[.bool false, .int .i64 0, .int .u64 b], .bool true]) ∧ Gr w w' := by
  go_enter Tryz.func93, Tryz.ntmps93
  go_wp2
  exact bodyPost_ret (v := .tuple #[.agg #[.bool false, .int .i64 0, .int .u64 b], .bool true]) (by simp [results, Tryz.results93, go_sem]) rfl ⟨rfl, ((Gr.refl _).alloc _).alloc _⟩
theorem number_o (k i b r : Int) (s : ByteArray) (h2 : (k == 2) = false) (h3 : (k == 3) = false) (w : World) : Calls Tryz.prog 93 #[.agg #[.int .i64 k, .int .i64 i, .int .u64 b, .string s, .int .u64 r]] w fun e w' => e = .returned (.tuple #[.agg #[.bool false, .int .i64 0, .int .u64 0], .bool false]) ∧ Gr w w' := by
  go_enter Tryz.func93, Tryz.ntmps93
  go_wp2
  exact bodyPost_ret (v := .tuple #[.agg #[.bool false, .int .i64 0, .int .u64 0], .bool false]) (by simp [results, Tryz.results93, go_sem]) rfl ⟨rfl, ((Gr.refl _).alloc _).alloc _⟩

theorem same_A {W : World} {bA bB : Nat} {x y z p q r : Value} (hne : bA ≠ bB) (fA : ∀ i, W.cell? ⟨bA, i, none⟩ = #[x, y, z][i]?) (fB : ∀ i, W.cell? ⟨bB, i, none⟩ = #[p, q, r][i]?) : (∀ i, (((W.setCell ⟨bA, 0, none⟩ x).setCell ⟨bA, 1, none⟩ y).setCell ⟨bA, 2, none⟩ z).cell? ⟨bA, i, none⟩ = #[x, y, z][i]?) ∧ (∀ i, (((W.setCell ⟨bA, 0, none⟩ x).setCell ⟨bA, 1, none⟩ y).setCell ⟨bA, 2, none⟩ z).cell? ⟨bB, i, none⟩ = #[p, q, r][i]?) := by
  refine ⟨stored3 fA x y z, fun i => ?_⟩
  rw [World.cell?_setCell_far _ _ _ _ hne, World.cell?_setCell_far _ _ _ _ hne, World.cell?_setCell_far _ _ _ _ hne, fB]
theorem same_B {W : World} {bA bB : Nat} {x y z p q r : Value} (hne : bA ≠ bB) (fA : ∀ i, W.cell? ⟨bA, i, none⟩ = #[x, y, z][i]?) (fB : ∀ i, W.cell? ⟨bB, i, none⟩ = #[p, q, r][i]?) : (∀ i, (((W.setCell ⟨bB, 0, none⟩ p).setCell ⟨bB, 1, none⟩ q).setCell ⟨bB, 2, none⟩ r).cell? ⟨bA, i, none⟩ = #[x, y, z][i]?) ∧ (∀ i, (((W.setCell ⟨bB, 0, none⟩ p).setCell ⟨bB, 1, none⟩ q).setCell ⟨bB, 2, none⟩ r).cell? ⟨bB, i, none⟩ = #[p, q, r][i]?) := by
  refine ⟨fun i => ?_, stored3 fB p q r⟩
  rw [World.cell?_setCell_far _ _ _ _ hne.symm, World.cell?_setCell_far _ _ _ _ hne.symm, World.cell?_setCell_far _ _ _ _ hne.symm, fA]
set_option maxRecDepth 100000 in
theorem numbers_tt (w : World) (hb vb n : Nat) (vw vr : Value) (hn : 1 < n) (hm : n ≤ 1000) (k0 i0 b0 r0 k1 i1 b1 r1 : Int) (s0 s1 : ByteArray) (hv : ∀ j, w.cell? ⟨vb, j, none⟩ = #[.int .i64 k0, .int .i64 i0, .int .u64 b0, .string s0, .int .u64 r0, .int .i64 k1, .int .i64 i1, .int .u64 b1, .string s1, .int .u64 r1][j]?)
    (a0 a1 : Bool) (x0 y0 x1 y1 : Int) (c0 : ∀ w, Calls Tryz.prog 93 #[.agg #[.int .i64 k0, .int .i64 i0, .int .u64 b0, .string s0, .int .u64 r0]] w fun e w' => e = .returned (.tuple #[.agg #[.bool a0, .int .i64 x0, .int .u64 y0], .bool true]) ∧ Gr w w') (c1 : ∀ w, Calls Tryz.prog 93 #[.agg #[.int .i64 k1, .int .i64 i1, .int .u64 b1, .string s1, .int .u64 r1]] w fun e w' => e = .returned (.tuple #[.agg #[.bool a1, .int .i64 x1, .int .u64 y1], .bool true]) ∧ Gr w w') :
    Calls Tryz.prog 98 #[.agg #[.pointer (some ⟨hb, 0, none⟩), vw, .slice (some ⟨vb, 0, none⟩) n n, vr]] w fun e w' => e = .returned (.tuple #[.agg #[.bool a0, .int .i64 x0, .int .u64 y0], .agg #[.bool a1, .int .i64 x1, .int .u64 y1], .bool true]) ∧ Gr w w' := by
  have hn0 : (0 : Int) < (n : Int) := by omega
  have hn1 : (1 : Int) < (n : Int) := by omega
  have hG : Gr w (((w.alloc (.cells #[.pointer (some ⟨hb, 0, none⟩), vw, .slice (some ⟨vb, 0, none⟩) n n, vr] 83)).alloc (.cells #[Value.bool false, .int .i64 0, .int .u64 0] 30)).alloc (.cells #[Value.bool false, .int .i64 0, .int .u64 0] 30)) := (((Gr.refl w).alloc _).alloc _).alloc _
  have hv0 := hv
  replace hv := hG.cells hv (Nat.zero_lt_succ _)
  go_enter Tryz.func98, Tryz.ntmps98
  go_upto_region 1 with fail
  obtain ⟨fC, fA, zA, -⟩ := Gr.pair (((Gr.refl _).alloc (.cells #[Value.bool false, .int .i64 0, .int .u64 0] 30)) : Gr ((w.alloc (.cells #[.pointer (some ⟨hb, 0, none⟩), vw, .slice (some ⟨vb, 0, none⟩) n n, vr] 83)).alloc (.cells #[Value.bool false, .int .i64 0, .int .u64 0] 30)) (((w.alloc (.cells #[.pointer (some ⟨hb, 0, none⟩), vw, .slice (some ⟨vb, 0, none⟩) n n, vr] 83)).alloc (.cells #[Value.bool false, .int .i64 0, .int .u64 0] 30)).alloc (.cells #[Value.bool false, .int .i64 0, .int .u64 0] 30))) (Nat.zero_lt_succ _) (Nat.zero_lt_succ _)
  obtain ⟨-, -, fB, zB, -⟩ := (Gr.refl (((w.alloc (.cells #[.pointer (some ⟨hb, 0, none⟩), vw, .slice (some ⟨vb, 0, none⟩) n n, vr] 83)).alloc (.cells #[Value.bool false, .int .i64 0, .int .u64 0] 30)).alloc (.cells #[Value.bool false, .int .i64 0, .int .u64 0] 30))).three (Nat.zero_lt_succ _) (Nat.zero_lt_succ _) (Nat.zero_lt_succ _)
  have hA0 : w.heap.size ≤ w.heap.size + 1 := by omega
  have hB0 : w.heap.size ≤ w.heap.size + 1 + 1 := by omega
  have hAB : w.heap.size + 1 ≠ w.heap.size + 1 + 1 := by omega
  have hCA : w.heap.size ≠ w.heap.size + 1 := by omega
  have hCB : w.heap.size ≠ w.heap.size + 1 + 1 := by omega
  have hvl : vb < w.heap.size := by have := cell_lt (hv0 0); exact this
  have hVA : vb ≠ w.heap.size + 1 := by omega
  have hVB : vb ≠ w.heap.size + 1 + 1 := by omega
  generalize hC' : w.heap.size = bC at *
  generalize hA' : bC + 1 = bA at *
  generalize hB' : bA + 1 = bB at *
  generalize (((w.alloc (.cells #[.pointer (some ⟨hb, 0, none⟩), vw, .slice (some ⟨vb, 0, none⟩) n n, vr] 83)).alloc (.cells #[Value.bool false, .int .i64 0, .int .u64 0] 30)).alloc (.cells #[Value.bool false, .int .i64 0, .int .u64 0] 30)) = W1 at *
  have HC := hid hC'
  have HA := hid (And.intro hA0 hB0)
  clear hC' hA' hB' hv0 hvl hA0 hB0
  go_upto_region 2 with (go_at_call 93; (with_reducible refine (c0 _).mono ?_); rintro e W2 ⟨rfl, hg⟩; (replace hv := hg.cells hv (Nat.zero_lt_succ _)); (replace zA := hg.thaw fA (Nat.zero_lt_succ _) zA); (replace zB := hg.thaw fB (Nat.zero_lt_succ _) zB); (replace fC := hg.cells fC (Nat.zero_lt_succ _)); (replace fA := hg.cells fA (Nat.zero_lt_succ _)); (replace fB := hg.cells fB (Nat.zero_lt_succ _)); (replace hG := hG.trans hg); clear hg c0)
  generalize hW : World.setCell _ _ _ = W3
  obtain ⟨fA', far, zf, hG'⟩ := upd hW fA (by rw [HC.out]; exact HA.out.1) hG
  replace hv := far _ _ hVA hv
  replace fC := far _ _ hCA fC
  replace fB := far _ _ (Ne.symm hAB) fB
  replace zA := zf _ zA
  replace zB := zf _ zB
  clear hW far zf fA hG
  go_upto_region 3 with (go_at_call 93; (with_reducible refine (c1 _).mono ?_); rintro e W4 ⟨rfl, hg⟩; (replace zA := hg.thaw fA' (Nat.zero_lt_succ _) zA); (replace zB := hg.thaw fB (Nat.zero_lt_succ _) zB); (replace fA' := hg.cells fA' (Nat.zero_lt_succ _)); (replace fB := hg.cells fB (Nat.zero_lt_succ _)); (replace hG' := hG'.trans hg); clear hg c1 hv fC)
  generalize hW : World.setCell _ _ _ = W5
  obtain ⟨fB', far, zf, hG⟩ := upd hW fB (by rw [HC.out]; exact HA.out.2) hG'
  have fA := far _ _ hAB fA'
  replace zA := zf _ zA
  replace zB := zf _ zB
  clear hW far zf fB hG' fA'
  go_region
  generalize hW6 : World.setCell (World.setCell (World.setCell W5 _ _) _ _) _ _ = W6
  obtain ⟨gA, far, zf, hG6⟩ := upd hW6 fA (by rw [HC.out]; exact HA.out.1) hG
  have fB6 := far _ _ (Ne.symm hAB) fB'
  generalize hW7 : World.setCell _ _ _ = W7
  obtain ⟨gB, far7, -, hG7⟩ := upd hW7 fB6 (by rw [HC.out]; exact HA.out.2) hG6
  have gA7 : ∀ i, W7.drew.cell? ⟨bA, i, none⟩ = _ := far7 _ _ hAB gA
  have gB7 : ∀ i, W7.drew.cell? ⟨bB, i, none⟩ = _ := gB
  clear gA gB far far7 hW6 hW7
  go_wp2
  exact bodyPost_ret (v := .tuple #[.agg #[.bool a0, .int .i64 x0, .int .u64 y0], .agg #[.bool a1, .int .i64 x1, .int .u64 y1], .bool true]) (by simp [results, Tryz.results98, go_sem, gA7, gB7]) rfl ⟨rfl, hG7.drew⟩
end Go.Proofs.YtgmimmdojkoppaaGreatDoor.W.Nu
