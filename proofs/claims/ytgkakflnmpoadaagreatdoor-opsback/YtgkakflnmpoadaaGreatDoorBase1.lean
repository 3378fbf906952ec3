import Derived.Test.YtgkakflnmpoadaaGreatDoorBase0
import Derived.Test.YtgkakflnmpoadaaGreatDoorProg
import Derived.WalkKit
import Derived.WalkLawsBesides
import Derived.Laws.BitsAllLaws
import Derived.KernelRfl
import Derived.Deep.QuietTactic
import Derived.BigQuiet
import Derived.Below
import Derived.Laws.OwnMore
import Derived.RangeFuncNested
import Derived.RangeFuncBound
import Derived.RangeFuncCalls
import Derived.RangeFuncLeaves
import Derived.Shelf.Abstract
import Derived.Shelf.RegionOpen
import Derived.OwnWalkIn
import Derived.TacticsInMore
import Derived.LoopNIn
import Derived.LoopIn
import Derived.Deep.RegionWith
import Derived.Deep.RegionHeld3
import Derived.Deep.Cut
import Derived.Deep.DeepCutAuto
/- Contracts of package num: two numbers, of whatever kinds. -/
namespace Go.Proofs.YtgkakflnmpoadaaGreatDoor.W.Nu
open Go.ChangeShapes Go.WideShapes Go.RowKit
theorem far3 {w : World} {A B : Array Value} {n : Nat} {b : Nat} (hb : n + 1 < b) (fA : ∀ i, w.cell? ⟨n, i, none⟩ = A[i]?) (fB : ∀ i, w.cell? ⟨n + 1, i, none⟩ = B[i]?) (x y z : Value) :
    (∀ i, (((w.setCell ⟨b, 0, none⟩ x).setCell ⟨b, 1, none⟩ y).setCell ⟨b, 2, none⟩ z).cell? ⟨n, i, none⟩ = A[i]?) ∧ (∀ i, (((w.setCell ⟨b, 0, none⟩ x).setCell ⟨b, 1, none⟩ y).setCell ⟨b, 2, none⟩ z).cell? ⟨n + 1, i, none⟩ = B[i]?) := by
  have h1 : b ≠ n := by omega
  have h2 : b ≠ n + 1 := by omega
  constructor <;> intro i
  · rw [World.cell?_setCell_far _ _ _ _ h1, World.cell?_setCell_far _ _ _ _ h1, World.cell?_setCell_far _ _ _ _ h1, fA]
  · rw [World.cell?_setCell_far _ _ _ _ h2, World.cell?_setCell_far _ _ _ _ h2, World.cell?_setCell_far _ _ _ _ h2, fB]
theorem softAdd_g (a b : Int) (w : World) : Calls Tryz.prog 195 #[.int .u64 a, .int .u64 b] w fun e w' => e = .returned (.int .u64 (opI .add a b)) ∧ Gr w w' := (softAdd_c a b w).mono fun _ _ ⟨h, m, k⟩ => ⟨h, Gr.of_same m k⟩
/-- what Add answers -/
def addR (a : Bool) (i u : Int) (b : Bool) (j v : Int) : Res := if a = true ∧ b = true then fitR (i + j) else okD (opI .add (bitsI a i u) (bitsI b j v))
set_option maxHeartbeats 2000000 in
theorem numAdd_mixed (a b : Bool) (i u j v : Int) (h : a = false ∨ b = false) (w : World) :
    Calls Tryz.prog 125 #[.agg #[.bool a, .int .i64 i, .int .u64 u], .agg #[.bool b, .int .i64 j, .int .u64 v]] w fun e w' => e = .returned (.tuple #[.agg #[.bool false, .int .i64 0, .int .u64 (opI .add (bitsI a i u) (bitsI b j v))], .int .i64 0]) ∧ Gr w w' := by
  have hk : (kindI a b == 0) = false := by rcases h with rfl | rfl <;> (try cases a) <;> (try cases b) <;> rfl
  clear h
  go_enter Tryz.func125, Tryz.ntmps125
  go_wp2_with (go_at_call 128; refine (kinds_c _ _ _ _ _ _ _).mono ?_; rintro e w' ⟨rfl, hg⟩; obtain ⟨fA, fB, fR, fz, hG⟩ := hg.three (Nat.zero_lt_succ _) (Nat.zero_lt_succ _) (Nat.zero_lt_succ _); clear hg; generalize hR : w.heap.size + 1 + 1 = bR at fR fz ⊢; replace hR : Hid (w.heap.size + 1 < bR) := by (show w.heap.size + 1 < bR); omega)
  go_region_held3 (fun w' => (∀ i_1, w'.cell? ⟨w.heap.size, i_1, none⟩ = #[Value.bool a, .int .i64 i, .int .u64 u][i_1]?) ∧ (∀ i, w'.cell? ⟨w.heap.size + 1, i, none⟩ = #[Value.bool b, .int .i64 j, .int .u64 v][i]?)) (first | exact ⟨fA, fB⟩ | exact far3 hR.out fA fB _ _ _) (first | (go_at_call 132; refine (bitsOf_c _ _ _ _).mono ?_; rintro e w' ⟨rfl, hg⟩; (try replace hg := hg.of_drew); replace fz := hg.thaw fR (Nat.zero_lt_succ _) fz; replace fA := hg.cells fA (Nat.zero_lt_succ _); replace fB := hg.cells fB (Nat.zero_lt_succ _); replace fR := hg.cells fR (Nat.zero_lt_succ _); replace hG := hG.trans hg; clear hg) | (go_at_call 195; refine (softAdd_g _ _ _).mono ?_; rintro e w' ⟨rfl, hg⟩; (try replace hg := hg.of_drew); replace fz := hg.thaw fR (Nat.zero_lt_succ _) fz; replace fA := hg.cells fA (Nat.zero_lt_succ _); replace fB := hg.cells fB (Nat.zero_lt_succ _); replace fR := hg.cells fR (Nat.zero_lt_succ _); replace hG := hG.trans hg; clear hg) | (go_at_call 130; refine (numDouble_c _ _).mono ?_; rintro e w' ⟨rfl, hg⟩; (try replace hg := hg.of_drew); replace fz := hg.thaw fR (Nat.zero_lt_succ _) fz; replace fA := hg.cells fA (Nat.zero_lt_succ _); replace fB := hg.cells fB (Nat.zero_lt_succ _); replace fR := hg.cells fR (Nat.zero_lt_succ _); replace hG := hG.trans hg; clear hg))
  all_goals go_wp2
  have hR' : w.heap.size ≤ bR := by have := hR.out; omega
  exact bodyPost_ret (v := .tuple #[.agg #[.bool false, .int .i64 0, .int .u64 (opI .add (bitsI a i u) (bitsI b j v))], .int .i64 0]) (by simp [results, Tryz.results125, go_sem, fR]) rfl ⟨rfl, ((hG.store hR' _).store hR' _).store hR' _⟩
set_option maxHeartbeats 2000000 in
theorem numAdd_whole (i u j v : Int) (xw : Bool) (xi xu xe : Int) (c : ∀ w, Calls Tryz.prog 194 #[.int .i64 i, .int .i64 j] w fun e w' => e = .returned (.tuple #[.agg #[.bool xw, .int .i64 xi, .int .u64 xu], .int .i64 xe]) ∧ Gr w w') (w : World) :
    Calls Tryz.prog 125 #[.agg #[.bool true, .int .i64 i, .int .u64 u], .agg #[.bool true, .int .i64 j, .int .u64 v]] w fun e w' => e = .returned (.tuple #[.agg #[.bool xw, .int .i64 xi, .int .u64 xu], .int .i64 xe]) ∧ Gr w w' := by
  have hk : kindI true true = 0 := rfl
  go_enter Tryz.func125, Tryz.ntmps125
  go_wp2_with (first | (go_at_call 128; refine (kinds_c _ _ _ _ _ _ _).mono ?_; rintro e w' ⟨rfl, hg⟩; obtain ⟨fA, fB, fR, fz, hG⟩ := hg.three (Nat.zero_lt_succ _) (Nat.zero_lt_succ _) (Nat.zero_lt_succ _); clear hg; generalize hR : w.heap.size + 1 + 1 = bR at fR fz ⊢; replace hR : Hid (w.heap.size + 1 < bR) := by (show w.heap.size + 1 < bR); omega) | (go_at_call 194; with_reducible refine (c _).mono ?_; rintro e w' ⟨rfl, hg⟩; (try replace hg := hg.of_drew); replace fz := hg.thaw fR (Nat.zero_lt_succ _) fz; replace fA := hg.cells fA (Nat.zero_lt_succ _); replace fB := hg.cells fB (Nat.zero_lt_succ _); replace fR := hg.cells fR (Nat.zero_lt_succ _); replace hG := hG.trans hg; clear hg))
  have hR' : w.heap.size ≤ bR := by have := hR.out; omega
  exact bodyPost_ret (v := .tuple #[.agg #[.bool xw, .int .i64 xi, .int .u64 xu], .int .i64 xe]) (by simp [results, Tryz.results125, go_sem, fR]) rfl ⟨rfl, ((hG.store hR' _).store hR' _).store hR' _⟩
theorem numAdd_c (a b : Bool) (i u j v : Int) (i0 : -9223372036854775808 ≤ i) (i1 : i < 9223372036854775808) (j0 : -9223372036854775808 ≤ j) (j1 : j < 9223372036854775808) (w : World) :
    Calls Tryz.prog 125 #[.agg #[.bool a, .int .i64 i, .int .u64 u], .agg #[.bool b, .int .i64 j, .int .u64 v]] w fun e w' => e = .returned (resV (addR a i u b j v)) ∧ Gr w w' := by
  unfold addR
  by_cases h : a = true ∧ b = true
  · rw [if_pos h]
    obtain ⟨rfl, rfl⟩ := h
    exact numAdd_whole i u j v _ _ _ _ (addW_c i j i0 i1 j0 j1) w
  · rw [if_neg h]
    exact numAdd_mixed a b i u j v (by revert h; cases a <;> cases b <;> simp) w
end Go.Proofs.YtgkakflnmpoadaaGreatDoor.W.Nu
/- Worlds that have only grown: a new block that is laid ahead of a call, and written behind it. -/
namespace Go.Proofs.YtgkakflnmpoadaaGreatDoor.W.Nu
open Go.ChangeShapes Go.WideShapes Go.RowKit

/-- three cells, written -/
theorem stored3 {w : World} {n : Nat} {p q r : Value} (f : ∀ i, w.cell? ⟨n, i, none⟩ = #[p, q, r][i]?) (x y z : Value) :
    ∀ i, (((w.setCell ⟨n, 0, none⟩ x).setCell ⟨n, 1, none⟩ y).setCell ⟨n, 2, none⟩ z).cell? ⟨n, i, none⟩ = #[x, y, z][i]? := by
  have ne : ∀ a b : Nat, a ≠ b → (⟨n, a, none⟩ : Addr) ≠ ⟨n, b, none⟩ := fun a b h e => h (by injection e)
  have s0 : w.cell? ⟨n, 0, none⟩ = some p := f 0
  have s1 : w.cell? ⟨n, 1, none⟩ = some q := f 1
  have s2 : w.cell? ⟨n, 2, none⟩ = some r := f 2
  have t1 : (w.setCell ⟨n, 0, none⟩ x).cell? ⟨n, 1, none⟩ = some q := by rw [World.cell?_setCell_other (h := ne 0 1 (by decide)), s1]
  have t2 : ((w.setCell ⟨n, 0, none⟩ x).setCell ⟨n, 1, none⟩ y).cell? ⟨n, 2, none⟩ = some r := by rw [World.cell?_setCell_other (h := ne 1 2 (by decide)), World.cell?_setCell_other (h := ne 0 2 (by decide)), s2]
  intro i
  match i with
  | 0 => rw [World.cell?_setCell_other (h := ne 2 0 (by decide)), World.cell?_setCell_other (h := ne 1 0 (by decide)), World.cell?_setCell_same (h := s0)]; rfl
  | 1 => rw [World.cell?_setCell_other (h := ne 2 1 (by decide)), World.cell?_setCell_same (h := t1)]; rfl
  | 2 => rw [World.cell?_setCell_same (h := t2)]; rfl
  | k + 3 =>
    rw [World.cell?_setCell_other (h := ne 2 (k + 3) (by omega)), World.cell?_setCell_other (h := ne 1 (k + 3) (by omega)), World.cell?_setCell_other (h := ne 0 (k + 3) (by omega)), f (k + 3)]
    rfl
theorem Gr.store3 {a b : World} (h : Gr a b) {n : Nat} (hn : a.heap.size ≤ n) (x y z : Value) : Gr a (((b.setCell ⟨n, 0, none⟩ x).setCell ⟨n, 1, none⟩ y).setCell ⟨n, 2, none⟩ z) :=
  ((h.store (p := ⟨n, 0, none⟩) hn x).store (p := ⟨n, 1, none⟩) hn y).store (p := ⟨n, 2, none⟩) hn z
end Go.Proofs.YtgkakflnmpoadaaGreatDoor.W.Nu
/- Worlds that have only grown: three cells of one of the call's own blocks, written. -/
namespace Go.Proofs.YtgkakflnmpoadaaGreatDoor.W.Nu
open Go.ChangeShapes Go.WideShapes Go.RowKit
theorem upd {w wk W : World} {b : Nat} {x y z p q r : Value} (hW : ((wk.setCell ⟨b, 0, none⟩ x).setCell ⟨b, 1, none⟩ y).setCell ⟨b, 2, none⟩ z = W) (f : ∀ i, wk.cell? ⟨b, i, none⟩ = #[p, q, r][i]?) (hb : w.heap.size ≤ b) (hG : Gr w wk) :
    (∀ i, W.cell? ⟨b, i, none⟩ = #[x, y, z][i]?) ∧ (∀ (n : Nat) (c : Array Value), n ≠ b → (∀ i, wk.cell? ⟨n, i, none⟩ = c[i]?) → ∀ i, W.cell? ⟨n, i, none⟩ = c[i]?) ∧ (∀ n : Nat, (∀ i, wk.frozen? ⟨n, i, none⟩ = false) → ∀ i, W.frozen? ⟨n, i, none⟩ = false) ∧ Gr w W := by
  subst hW
  refine ⟨stored3 f x y z, fun n c h g i => ?_, fun n g i => ?_, hG.store3 hb x y z⟩
  · rw [World.cell?_setCell_far _ _ _ _ (fun e => h e.symm), World.cell?_setCell_far _ _ _ _ (fun e => h e.symm), World.cell?_setCell_far _ _ _ _ (fun e => h e.symm), g]
  · rw [World.frozen?_setCell, World.frozen?_setCell, World.frozen?_setCell, g]
end Go.Proofs.YtgkakflnmpoadaaGreatDoor.W.Nu
/- Package ops: values as numbers. -/
namespace Go.Proofs.YtgkakflnmpoadaaGreatDoor.W.Nu
open Go.ChangeShapes Go.WideShapes Go.RowKit
set_option linter.unusedVariables false
theorem number_i (i b r : Int) (s : ByteArray) (w : World) : Calls Tryz.prog 46 #[.agg #[.int .i64 2, .int .i64 i, .int .u64 b, .string s, .int .u64 r]] w fun e w' => e = .returned (.tuple #[.agg #[.bool true, .int .i64 i, .int .u64 0], .bool true]) ∧ Gr w w' := by
  go_enter Tryz.func46, Tryz.ntmps46
  go_wp2
  exact bodyPost_ret (v := .tuple #[.agg #[.bool true, .int .i64 i, .int .u64 0], .bool true]) (by simp [results, Tryz.results46, go_sem]) rfl ⟨rfl, ((Gr.refl _).alloc _).alloc _⟩
theorem number_f (i b r : Int) (s : ByteArray) (w : World) : Calls Tryz.prog 46 #[.agg #[.int .i64 3, .int .i64 i, .int .u64 b, .string s, .int .u64 r]] w fun e w' => e = .returned (.tuple #[.agg #[.bool false, .int .i64 0, .int .u64 b], .bool true]) ∧ Gr w w' := by
  go_enter Tryz.func46, Tryz.ntmps46
  go_wp2
  exact bodyPost_ret (v := .tuple #[.agg #[.bool false, .int .i64 0, .int .u64 b], .bool true]) (by simp [results, Tryz.results46, go_sem]) rfl ⟨rfl, ((Gr.refl _).alloc _).alloc _⟩
set_option maxRecDepth 100000 in
theorem numbers_tt (w : World) (hb vb n : Nat) (vw vr : Value) (hn : 1 < n) (hm : n ≤ 1000) (k0 i0 b0 r0 k1 i1 b1 r1 : Int) (s0 s1 : ByteArray) (hv : ∀ j, w.cell? ⟨vb, j, none⟩ = #[.int .i64 k0, .int .i64 i0, .int .u64 b0, .string s0, .int .u64 r0, .int .i64 k1, .int .i64 i1, .int .u64 b1, .string s1, .int .u64 r1][j]?)
    (a0 a1 : Bool) (x0 y0 x1 y1 : Int) (c0 : ∀ w, Calls Tryz.prog 46 #[.agg #[.int .i64 k0, .int .i64 i0, .int .u64 b0, .string s0, .int .u64 r0]] w fun e w' => e = .returned (.tuple #[.agg #[.bool a0, .int .i64 x0, .int .u64 y0], .bool true]) ∧ Gr w w') (c1 : ∀ w, Calls Tryz.prog 46 #[.agg #[.int .i64 k1, .int .i64 i1, .int .u64 b1, .string s1, .int .u64 r1]] w fun e w' => e = .returned (.tuple #[.agg #[.bool a1, .int .i64 x1, .int .u64 y1], .bool true]) ∧ Gr w w') :
    Calls Tryz.prog 127 #[.agg #[.pointer (some ⟨hb, 0, none⟩), vw, .slice (some ⟨vb, 0, none⟩) n n, vr]] w fun e w' => e = .returned (.tuple #[.agg #[.bool a0, .int .i64 x0, .int .u64 y0], .agg #[.bool a1, .int .i64 x1, .int .u64 y1], .bool true]) ∧ Gr w w' := by
  have hn0 : (0 : Int) < (n : Int) := by omega
  have hn1 : (1 : Int) < (n : Int) := by omega
  have hG : Gr w (((w.alloc (.cells #[.pointer (some ⟨hb, 0, none⟩), vw, .slice (some ⟨vb, 0, none⟩) n n, vr] 80)).alloc (.cells #[Value.bool false, .int .i64 0, .int .u64 0] 24)).alloc (.cells #[Value.bool false, .int .i64 0, .int .u64 0] 24)) := (((Gr.refl w).alloc _).alloc _).alloc _
  have hv0 := hv
  replace hv := hG.cells hv (Nat.zero_lt_succ _)
  go_enter Tryz.func127, Tryz.ntmps127
  go_upto_region 1 with fail
  obtain ⟨fC, fA, zA, -⟩ := Gr.pair (((Gr.refl _).alloc (.cells #[Value.bool false, .int .i64 0, .int .u64 0] 24)) : Gr ((w.alloc (.cells #[.pointer (some ⟨hb, 0, none⟩), vw, .slice (some ⟨vb, 0, none⟩) n n, vr] 80)).alloc (.cells #[Value.bool false, .int .i64 0, .int .u64 0] 24)) (((w.alloc (.cells #[.pointer (some ⟨hb, 0, none⟩), vw, .slice (some ⟨vb, 0, none⟩) n n, vr] 80)).alloc (.cells #[Value.bool false, .int .i64 0, .int .u64 0] 24)).alloc (.cells #[Value.bool false, .int .i64 0, .int .u64 0] 24))) (Nat.zero_lt_succ _) (Nat.zero_lt_succ _)
  obtain ⟨-, -, fB, zB, -⟩ := (Gr.refl (((w.alloc (.cells #[.pointer (some ⟨hb, 0, none⟩), vw, .slice (some ⟨vb, 0, none⟩) n n, vr] 80)).alloc (.cells #[Value.bool false, .int .i64 0, .int .u64 0] 24)).alloc (.cells #[Value.bool false, .int .i64 0, .int .u64 0] 24))).three (Nat.zero_lt_succ _) (Nat.zero_lt_succ _) (Nat.zero_lt_succ _)
  have hA0 : w.heap.size ≤ w.heap.size + 1 := by omega
  have hB0 : w.heap.size ≤ w.heap.size + 1 + 1 := by omega
  have hAB : w.heap.size + 1 ≠ w.heap.size + 1 + 1 := by omega
  have hCA : w.heap.size ≠ w.heap.size + 1 := by omega
  have hCB : w.heap.size ≠ w.heap.size + 1 + 1 := by omega
  have hvl : vb < w.heap.size := by have := cell_lt (hv0 0); exact this
  have hVA : vb ≠ w.heap.size + 1 := by omega
  have hVB : vb ≠ w.heap.size + 1 + 1 := by omega
  generalize hC' : w.heap.size = bC at *
  generalize hA' : bC + 1 = bA at *
  generalize hB' : bA + 1 = bB at *
  generalize (((w.alloc (.cells #[.pointer (some ⟨hb, 0, none⟩), vw, .slice (some ⟨vb, 0, none⟩) n n, vr] 80)).alloc (.cells #[Value.bool false, .int .i64 0, .int .u64 0] 24)).alloc (.cells #[Value.bool false, .int .i64 0, .int .u64 0] 24)) = W1 at *
  have HC := hid hC'
  have HA := hid (And.intro hA0 hB0)
  clear hC' hA' hB' hv0 hvl hA0 hB0
  go_upto_region 2 with (go_at_call 46; (with_reducible refine (c0 _).mono ?_); rintro e W2 ⟨rfl, hg⟩; (replace hv := hg.cells hv (Nat.zero_lt_succ _)); (replace zA := hg.thaw fA (Nat.zero_lt_succ _) zA); (replace zB := hg.thaw fB (Nat.zero_lt_succ _) zB); (replace fC := hg.cells fC (Nat.zero_lt_succ _)); (replace fA := hg.cells fA (Nat.zero_lt_succ _)); (replace fB := hg.cells fB (Nat.zero_lt_succ _)); (replace hG := hG.trans hg); clear hg c0)
  generalize hW : World.setCell _ _ _ = W3
  obtain ⟨fA', far, zf, hG'⟩ := upd hW fA (by rw [HC.out]; exact HA.out.1) hG
  replace hv := far _ _ hVA hv
  replace fC := far _ _ hCA fC
  replace fB := far _ _ (Ne.symm hAB) fB
  replace zA := zf _ zA
  replace zB := zf _ zB
  clear hW far zf fA hG
  go_upto_region 3 with (go_at_call 46; (with_reducible refine (c1 _).mono ?_); rintro e W4 ⟨rfl, hg⟩; (replace zA := hg.thaw fA' (Nat.zero_lt_succ _) zA); (replace zB := hg.thaw fB (Nat.zero_lt_succ _) zB); (replace fA' := hg.cells fA' (Nat.zero_lt_succ _)); (replace fB := hg.cells fB (Nat.zero_lt_succ _)); (replace hG' := hG'.trans hg); clear hg c1 hv fC)
  generalize hW : World.setCell _ _ _ = W5
  obtain ⟨fB', far, zf, hG⟩ := upd hW fB (by rw [HC.out]; exact HA.out.2) hG'
  have fA := far _ _ hAB fA'
  replace zA := zf _ zA
  replace zB := zf _ zB
  clear hW far zf fB hG' fA'
  go_region
  generalize hW6 : World.setCell (World.setCell (World.setCell W5 _ _) _ _) _ _ = W6
  obtain ⟨gA, far, zf, hG6⟩ := upd hW6 fA (by rw [HC.out]; exact HA.out.1) hG
  have fB6 := far _ _ (Ne.symm hAB) fB'
  generalize hW7 : World.setCell _ _ _ = W7
  obtain ⟨gB, far7, -, hG7⟩ := upd hW7 fB6 (by rw [HC.out]; exact HA.out.2) hG6
  have gA7 : ∀ i, W7.drew.cell? ⟨bA, i, none⟩ = _ := far7 _ _ hAB gA
  have gB7 : ∀ i, W7.drew.cell? ⟨bB, i, none⟩ = _ := gB
  clear gA gB far far7 hW6 hW7
  go_wp2
  exact bodyPost_ret (v := .tuple #[.agg #[.bool a0, .int .i64 x0, .int .u64 y0], .agg #[.bool a1, .int .i64 x1, .int .u64 y1], .bool true]) (by simp [results, Tryz.results127, go_sem, gA7, gB7]) rfl ⟨rfl, hG7.drew⟩
end Go.Proofs.YtgkakflnmpoadaaGreatDoor.W.Nu
/- Package ops: boxes, over Box's contract. -/
namespace Go.Proofs.YtgkakflnmpoadaaGreatDoor.W.Nu
open Go.ChangeShapes Go.WideShapes Go.RowKit
set_option linter.unusedVariables false
theorem make2 (w : World) : (Instr.makeSlice 78 (.int .i64 2) (.int .i64 2)).run Tryz.prog w = .ok (.slice (some ⟨w.heap.size, 0, none⟩) 2 2) (w.alloc (.cells #[.int .i64 0, .int .i64 0, .int .u64 0, .string ⟨#[]⟩, .int .u64 0, .int .i64 0, .int .i64 0, .int .u64 0, .string ⟨#[]⟩, .int .u64 0] 46)) := by kernel_rfl
theorem make1 (w : World) : (Instr.makeSlice 78 (.int .i64 1) (.int .i64 1)).run Tryz.prog w = .ok (.slice (some ⟨w.heap.size, 0, none⟩) 1 1) (w.alloc (.cells #[.int .i64 0, .int .i64 0, .int .u64 0, .string ⟨#[]⟩, .int .u64 0] 46)) := by kernel_rfl
section
variable {W : World} {hb : Nat} {vw vv vr : Value} {R : Ending → World → Prop}
theorem boxInt_g (i : Int) (cb : ∀ w', Below W.heap.size W w' → Calls Tryz.prog 11 #[.pointer (some ⟨hb, 0, none⟩), .agg #[.int .i64 2, .int .i64 i, .int .u64 0, .string ⟨#[]⟩, .int .u64 0], vr] w' R) (two : ∀ e w', R e w' → ∃ x y, e = .returned (.tuple #[.int .u64 x, .int .i64 y])) : Calls Tryz.prog 56 #[.agg #[.pointer (some ⟨hb, 0, none⟩), vw, vv, vr], .int .i64 i] W R := by
  have c1 := cb _ ((Below.refl _ W).alloc (Nat.le_refl _) (.cells #[.pointer (some ⟨hb, 0, none⟩), vw, vv, vr] 80))
  clear cb
  have T := hid two
  clear two
  go_enter Tryz.func56, Tryz.ntmps56
  go_wp2_with (go_at_call 11; (with_reducible refine c1.mono ?_); intro e w2 h; (obtain ⟨x, y, rfl⟩ := T.out e w2 h); clear c1)
  exact h
theorem boxText_g (s : ByteArray) (cb : ∀ w', Below W.heap.size W w' → Calls Tryz.prog 11 #[.pointer (some ⟨hb, 0, none⟩), .agg #[.int .i64 4, .int .i64 0, .int .u64 0, .string s, .int .u64 0], vr] w' R) (two : ∀ e w', R e w' → ∃ x y, e = .returned (.tuple #[.int .u64 x, .int .i64 y])) : Calls Tryz.prog 59 #[.agg #[.pointer (some ⟨hb, 0, none⟩), vw, vv, vr], .string s] W R := by
  have c1 := cb _ ((Below.refl _ W).alloc (Nat.le_refl _) (.cells #[.pointer (some ⟨hb, 0, none⟩), vw, vv, vr] 80))
  clear cb
  have T := hid two
  clear two
  go_enter Tryz.func59, Tryz.ntmps59
  go_wp2_with (go_at_call 11; (with_reducible refine c1.mono ?_); intro e w2 h; (obtain ⟨x, y, rfl⟩ := T.out e w2 h); clear c1)
  exact h
theorem boxNum_i (i u : Int) (cb : ∀ w', Below W.heap.size W w' → Calls Tryz.prog 11 #[.pointer (some ⟨hb, 0, none⟩), .agg #[.int .i64 2, .int .i64 i, .int .u64 0, .string ⟨#[]⟩, .int .u64 0], vr] w' R) (two : ∀ e w', R e w' → ∃ x y, e = .returned (.tuple #[.int .u64 x, .int .i64 y])) : Calls Tryz.prog 61 #[.agg #[.pointer (some ⟨hb, 0, none⟩), vw, vv, vr], .agg #[.bool true, .int .i64 i, .int .u64 u]] W R := by
  have hB := (((Below.refl _ W).alloc (Nat.le_refl _) (.cells #[.pointer (some ⟨hb, 0, none⟩), vw, vv, vr] 80)).alloc (by rw [World.size_alloc]; omega) (.cells #[.bool true, .int .i64 i, .int .u64 u] 24))
  have c1 := boxInt_g (vw := vw) (vv := vv) i (fun w' h => cb w' (hB.trans (h.mono hB.size))) two
  clear cb hB
  have T := hid two
  clear two
  go_enter Tryz.func61, Tryz.ntmps61
  go_wp2_with (go_at_call 56; (with_reducible refine c1.mono ?_); intro e w2 h; (obtain ⟨x, y, rfl⟩ := T.out e w2 h); clear c1)
  exact h
theorem boxNum_f (i u : Int) (cb : ∀ w', Below W.heap.size W w' → Calls Tryz.prog 11 #[.pointer (some ⟨hb, 0, none⟩), .agg #[.int .i64 3, .int .i64 0, .int .u64 u, .string ⟨#[]⟩, .int .u64 0], vr] w' R) (two : ∀ e w', R e w' → ∃ x y, e = .returned (.tuple #[.int .u64 x, .int .i64 y])) : Calls Tryz.prog 61 #[.agg #[.pointer (some ⟨hb, 0, none⟩), vw, vv, vr], .agg #[.bool false, .int .i64 i, .int .u64 u]] W R := by
  have hB := (((Below.refl _ W).alloc (Nat.le_refl _) (.cells #[.pointer (some ⟨hb, 0, none⟩), vw, vv, vr] 80)).alloc (by rw [World.size_alloc]; omega) (.cells #[.bool false, .int .i64 i, .int .u64 u] 24))
  have c1 := cb _ hB
  clear cb hB
  have T := hid two
  clear two
  go_enter Tryz.func61, Tryz.ntmps61
  go_wp2_with (go_at_call 11; (with_reducible refine c1.mono ?_); intro e w2 h; (obtain ⟨x, y, rfl⟩ := T.out e w2 h); clear c1)
  exact h
end
end Go.Proofs.YtgkakflnmpoadaaGreatDoor.W.Nu
/- Package store in memory: a store's block, its row of bytes, its table of blocks, its heap of free Ids; what a call may change. -/
namespace Go.Proofs.YtgkakflnmpoadaaGreatDoor.W
open Go.ChangeShapes Go.WideShapes Go.RowKit


/-- a block of the table -/
structure Blk where
  live : Bool
  pos : Int
  len : Int
  back : Int
  next : Int
def Blk.cells (b : Blk) : List Value := [.bool b.live, .int .i64 b.pos, .int .i64 b.len, .int .i64 b.back, .int .i64 b.next]
theorem Blk.cells_len (b : Blk) : b.cells.length = 5 := rfl
def flat (l : List Blk) : List Value := l.flatMap Blk.cells
theorem flat_cons (b : Blk) (r : List Blk) : flat (b :: r) = b.cells ++ flat r := by simp [flat]
theorem flat_append (a b : List Blk) : flat (a ++ b) = flat a ++ flat b := by simp [flat]
theorem flat_get (l : List Blk) (i j : Nat) (b : Blk) (h : l[i]? = some b) (hj : j < 5) : (flat l)[i * 5 + j]? = b.cells[j]? := by
  induction l generalizing i with
  | nil => simp at h
  | cons c r ih =>
    rw [flat_cons]
    cases i with
    | zero =>
      simp at h
      subst h
      rw [List.getElem?_append_left (by rw [Blk.cells_len]; omega)]
      simp
    | succ k =>
      simp at h
      rw [List.getElem?_append_right (by rw [Blk.cells_len]; omega), Blk.cells_len, ← ih k h]
      congr 1; omega
theorem flat_set (l : List Blk) (i j : Nat) (b c : Blk) (u : Value) (h : l[i]? = some b) (hj : j < 5) (hc : c.cells = b.cells.set j u) : (flat l).set (i * 5 + j) u = flat (l.set i c) := by
  induction l generalizing i with
  | nil => simp at h
  | cons d r ih =>
    rw [flat_cons]
    cases i with
    | zero =>
      simp at h
      subst h
      rw [List.set_append_left _ _ (by rw [Blk.cells_len]; omega), List.set_cons_zero, flat_cons, hc]
      simp
    | succ k =>
      simp at h
      rw [List.set_append_right _ _ (by rw [Blk.cells_len]; omega), List.set_cons_succ, flat_cons, ← ih k h, Blk.cells_len]
      congr 2; omega

/-- a store -/
structure Sto where
  row : List Nat
  head : Blk
  blks : List Blk
  free : List Int
  used : Int
  hand : Int
  sought : Bool

/-- a byte in memory -/
def byteV (n : Nat) : Value := .int .u8 n
/-- what a store's own block holds -/
def Sto.obj (vr vb vf : Value) (s : Sto) : List Value := [vr, .bool s.head.live, .int .i64 s.head.pos, .int .i64 s.head.len, .int .i64 s.head.back, .int .i64 s.head.next, vb, vf, .int .i64 s.used, .int .i64 s.hand, .bool s.sought]

/-- a store as it lies in memory -/
structure Lay (W : World) (sb : Nat) (vr vb vf : Value) (s : Sto) : Prop where
  obj : W.heap[sb]? = some (.cells (s.obj vr vb vf).toArray 69 (0, 0))
  row : W.ownsRow 0 5 1 vr s.row.length (s.row.map byteV)
  blk : W.ownsRow 0 64 5 vb s.blks.length (flat s.blks)
  free : W.ownsRow 0 3 1 vf s.free.length (s.free.map (.int .i64))

/-- what a call may change: of what was there, the blocks of S -/
structure Upd (S : Nat → Prop) (W W' : World) : Prop where
  os : W'.os = W.os
  tape : W'.tape = W.tape
  output : W'.output = W.output
  size : W.heap.size ≤ W'.heap.size
  block : ∀ k, k < W.heap.size → ¬ S k → W'.heap[k]? = W.heap[k]?
/-- S, and what was laid since -/
def Nx (S : Nat → Prop) (W W' : World) : Nat → Prop := fun k => S k ∨ (W.heap.size ≤ k ∧ k < W'.heap.size)

theorem Nx.on {S : Nat → Prop} {a b c : World} {k : Nat} (h : Nx S a b k) (hs : b.heap.size ≤ c.heap.size) : Nx S a c k := h.imp id (fun g => ⟨g.1, Nat.lt_of_lt_of_le g.2 hs⟩)
theorem Upd.refl (S : Nat → Prop) (W : World) : Upd S W W := ⟨rfl, rfl, rfl, Nat.le_refl _, fun _ _ _ => rfl⟩
theorem Upd.trans {S : Nat → Prop} {a b c : World} (h : Upd S a b) (k : Upd (Nx S a b) b c) : Upd S a c :=
  ⟨k.os.trans h.os, k.tape.trans h.tape, k.output.trans h.output, Nat.le_trans h.size k.size, fun i hi hn => (k.block i (Nat.lt_of_lt_of_le hi h.size) (fun g => g.elim hn (fun g => by omega))).trans (h.block i hi hn)⟩
theorem Upd.mono {S T : Nat → Prop} {a b : World} (h : Upd S a b) (hs : ∀ k, S k → T k) : Upd T a b := ⟨h.os, h.tape, h.output, h.size, fun k hk hn => h.block k hk (fun g => hn (hs k g))⟩
theorem Upd.trans' {S : Nat → Prop} {a b c : World} (h : Upd S a b) (k : Upd S b c) : Upd S a c := h.trans (k.mono fun _ g => .inl g)
theorem Upd.below {S : Nat → Prop} {a b : World} (h : Upd S a b) {n : Nat} (hn : n ≤ a.heap.size) (hs : ∀ k, S k → n ≤ k) : Below n a b :=
  ⟨h.os, h.tape, h.output, h.size, fun k hk => h.block k (by omega) (fun g => by have := hs k g; omega)⟩
theorem Upd.of_below {S : Nat → Prop} {a b : World} (h : Below a.heap.size a b) : Upd S a b := ⟨h.os, h.tape, h.output, h.size, fun k hk _ => h.block k hk⟩
theorem Upd.drewN {S : Nat → Prop} {a b : World} (h : Upd S a b) (n : Nat) : Upd S a (b.drewN n) := ⟨h.os, h.tape, h.output, h.size, h.block⟩
theorem Upd.drew {S : Nat → Prop} {a b : World} (h : Upd S a b) : Upd S a b.drew := ⟨h.os, h.tape, h.output, h.size, h.block⟩
theorem Upd.alloc {S : Nat → Prop} {a b : World} (h : Upd S a b) (o : Obj) : Upd S a (b.alloc o) :=
  h.trans' ⟨rfl, rfl, rfl, by simp, fun k hk _ => Below.heap_alloc _ _ _ hk⟩
theorem Upd.setCell {S : Nat → Prop} {a b : World} (h : Upd S a b) {p : Addr} (hp : Nx S a b p.block) (u : Value) : Upd S a (b.setCell p u) :=
  h.trans ⟨rfl, rfl, rfl, by simp [World.setCell], fun k _ hn => Below.heap_setCell _ _ _ _ (by rintro rfl; exact hn hp)⟩
theorem Upd.grown {S : Nat → Prop} {a b c : World} {row : Option Nat} (h : Upd S a b) (hg : b.grownBy c row) (hr : ∀ k, row = some k → Nx S a b k) : Upd S a c :=
  h.trans ⟨hg.os, hg.tape, hg.output, hg.size, fun k hk hn => hg.block k hk (by rintro e; exact hn (hr k e.symm))⟩

/-- the blocks of a store are S's -/
structure Own (S : Nat → Prop) (sb : Nat) (vr vb vf : Value) : Prop where
  sb : S sb
  row : ∀ k, vr.ownBlock = some k → S k
  blk : ∀ k, vb.ownBlock = some k → S k
  free : ∀ k, vf.ownBlock = some k → S k
theorem Own.mono {S T : Nat → Prop} {sb : Nat} {vr vb vf : Value} (h : Own S sb vr vb vf) (g : ∀ k, S k → T k) : Own T sb vr vb vf :=
  ⟨g _ h.sb, fun k e => g _ (h.row k e), fun k e => g _ (h.blk k e), fun k e => g _ (h.free k e)⟩
theorem Own.on {S : Nat → Prop} {a b c : World} {sb : Nat} {vr vb vf : Value} (h : Own (Nx S a b) sb vr vb vf) (hs : b.heap.size ≤ c.heap.size) : Own (Nx S a c) sb vr vb vf := h.mono (fun _ g => g.on hs)
/-- a store lies in W, in blocks of S -/
def At (W : World) (S : Nat → Prop) (sb : Nat) (s : Sto) : Prop := ∃ vr vb vf, Lay W sb vr vb vf s ∧ Own S sb vr vb vf

section
variable {W : World} {sb : Nat} {vr vb vf : Value} {s : Sto}
theorem Lay.cell (h : Lay W sb vr vb vf s) (j : Nat) : W.cell? ⟨sb, j, none⟩ = (s.obj vr vb vf)[j]? := by
  rw [cell_of_row W sb j _ _ (0, 0) h.obj]; simp
theorem Lay.thaw (h : Lay W sb vr vb vf s) (j : Nat) : W.frozen? ⟨sb, j, none⟩ = false := by
  simp [World.frozen?, h.obj]
/-- whatever keeps the store's blocks keeps the store -/
theorem Lay.kept (h : Lay W sb vr vb vf s) {W' : World} (h0 : W'.heap[sb]? = W.heap[sb]?) (h1 : ∀ k, vr.ownBlock = some k → W'.heap[k]? = W.heap[k]?) (h2 : ∀ k, vb.ownBlock = some k → W'.heap[k]? = W.heap[k]?) (h3 : ∀ k, vf.ownBlock = some k → W'.heap[k]? = W.heap[k]?) : Lay W' sb vr vb vf s := by
  have key : ∀ {e : TypeId} {size : Nat} {v : Value} {n : Nat} {xs : List Value}, W.ownsRow 0 e size v n xs → (∀ k, v.ownBlock = some k → W'.heap[k]? = W.heap[k]?) → W'.ownsRow 0 e size v n xs := by
    intro e size v n xs ho hk
    refine ⟨ho.1, ?_⟩
    rcases ho.2 with hn | ⟨g, cap, cur, rfl, hb, hgg, rest⟩
    · exact .inl hn
    · exact .inr ⟨g, cap, cur, rfl, hb, (hk g rfl).trans hgg, rest⟩
  exact ⟨h0.trans h.obj, key h.row h1, key h.blk h2, key h.free h3⟩
end
theorem At.upd {W W' : World} {S T : Nat → Prop} {sb : Nat} {s : Sto} (h : At W S sb s) (hu : Upd T W W') (hd : ∀ k, S k → ¬ T k) : At W' S sb s := by
  obtain ⟨vr, vb, vf, hl, ho⟩ := h
  have lt : ∀ {e : TypeId} {size : Nat} {v : Value} {n : Nat} {xs : List Value}, W.ownsRow 0 e size v n xs → ∀ k, v.ownBlock = some k → k < W.heap.size := fun h k e => (h.lt k e).2
  exact ⟨vr, vb, vf, hl.kept (hu.block _ (Array.getElem?_eq_some_iff.1 hl.obj).1 (hd _ ho.sb)) (fun k e => hu.block _ (lt hl.row k e) (hd _ (ho.row k e))) (fun k e => hu.block _ (lt hl.blk k e) (hd _ (ho.blk k e))) (fun k e => hu.block _ (lt hl.free k e) (hd _ (ho.free k e))), ho⟩
theorem At.below {W W' : World} {S : Nat → Prop} {sb : Nat} {s : Sto} (h : At W S sb s) (hu : Below W.heap.size W W') : At W' S sb s := h.upd (T := fun _ => False) (Upd.of_below hu) (fun _ _ g => g)

/-- the block of a number: 0 is the front -/
def Sto.get (s : Sto) (n : Nat) : Option Blk := if n = 0 then some s.head else s.blks[n - 1]?
def Sto.set (s : Sto) (n : Nat) (b : Blk) : Sto := if n = 0 then { s with head := b } else { s with blks := s.blks.set (n - 1) b }
/-- where the block of a number lies -/
def Pt (sb : Nat) (vb : Value) (n B O : Nat) : Prop := (n = 0 ∧ B = sb ∧ O = 1) ∨ (n ≠ 0 ∧ vb.ownBlock = some B ∧ O = (n - 1) * 5)
section
variable {W : World} {sb : Nat} {vr vb vf : Value} {s : Sto}
theorem own_slice {e : TypeId} {size : Nat} {v : Value} {n : Nat} {xs : List Value} (h : W.ownsRow 0 e size v n xs) (hn : 0 < n) : ∃ g cap, v = .slice (some ⟨g, 0, none⟩) n cap ∧ n ≤ cap := by
  rcases h.2 with ⟨_, rfl⟩ | ⟨g, cap, cur, rfl, _, _, hc, _⟩
  · omega
  · exact ⟨g, cap, rfl, hc⟩
theorem Lay.pt (h : Lay W sb vr vb vf s) {n : Nat} {b : Blk} (hb : s.get n = some b) : ∃ B O, Pt sb vb n B O := by
  unfold Sto.get at hb
  split at hb
  · exact ⟨sb, 1, .inl ⟨by assumption, rfl, rfl⟩⟩
  · obtain ⟨g, cap, e, _⟩ := own_slice h.blk (Nat.lt_of_le_of_lt (Nat.zero_le _) (List.getElem?_eq_some_iff.1 hb).1)
    exact ⟨g, (n - 1) * 5, .inr ⟨by assumption, by rw [e]; rfl, rfl⟩⟩
theorem Lay.bcell (h : Lay W sb vr vb vf s) {n B O : Nat} {b : Blk} (hb : s.get n = some b) (hp : Pt sb vb n B O) (j : Nat) (hj : j < 5) : W.cell? ⟨B, O + j, none⟩ = b.cells[j]? := by
  unfold Sto.get at hb
  rcases hp with ⟨rfl, rfl, rfl⟩ | ⟨hn, e, rfl⟩
  · simp at hb
    subst hb
    rw [h.cell]
    match j, hj with
    | 0, _ | 1, _ | 2, _ | 3, _ | 4, _ => rfl
  · rw [if_neg hn] at hb
    have hi := (List.getElem?_eq_some_iff.1 hb).1
    obtain ⟨g, cap, rfl, _⟩ := own_slice h.blk (Nat.lt_of_le_of_lt (Nat.zero_le _) hi)
    simp [Value.ownBlock] at e
    subst e
    rw [h.blk.cellAt _ (by omega), flat_get _ _ _ _ hb hj]
theorem Lay.bthaw (h : Lay W sb vr vb vf s) {n B O : Nat} {b : Blk} (hb : s.get n = some b) (hp : Pt sb vb n B O) (j : Nat) : W.frozen? ⟨B, O + j, none⟩ = false := by
  unfold Sto.get at hb
  rcases hp with ⟨rfl, rfl, rfl⟩ | ⟨hn, e, rfl⟩
  · exact h.thaw _
  · rw [if_neg hn] at hb
    obtain ⟨g, cap, rfl, _⟩ := own_slice h.blk (Nat.lt_of_le_of_lt (Nat.zero_le _) (List.getElem?_eq_some_iff.1 hb).1)
    simp [Value.ownBlock] at e
    subst e
    exact h.blk.frozenAt _
/-- two rows of different elements are different blocks -/
theorem own_other {e : TypeId} {size : Nat} {v : Value} {n : Nat} {xs : List Value} (h : W.ownsRow 0 e size v n xs) {b : Nat} {c : Array Value} {t : TypeId} (hb : W.heap[b]? = some (.cells c t (0, 0))) (hne : e ≠ t) (j : Nat) (u : Value) : (W.setCell ⟨b, j, none⟩ u).ownsRow 0 e size v n xs := by
  refine ⟨h.1, ?_⟩
  rcases h.2 with hn | ⟨g, cap, cur, rfl, h0, hgg, rest⟩
  · exact .inl hn
  · refine .inr ⟨g, cap, cur, rfl, h0, ?_, rest⟩
    rw [Below.heap_setCell _ _ _ _ (by rintro rfl; rw [hgg] at hb; simp at hb; exact hne hb.2)]
    exact hgg
theorem heap_set {b : Nat} {c : List Value} {t : TypeId} (hb : W.heap[b]? = some (.cells c.toArray t (0, 0))) (j : Nat) (u : Value) : (W.setCell ⟨b, j, none⟩ u).heap[b]? = some (.cells (c.set j u).toArray t (0, 0)) := by
  simp only [World.setCell, Array.getElem?_modify]
  rw [hb]
  simp
/-- a cell of the store's own block is written -/
theorem Lay.store (h : Lay W sb vr vb vf s) {s' : Sto} (j : Nat) (u : Value) (ho : s'.obj vr vb vf = (s.obj vr vb vf).set j u) (h1 : s'.row = s.row) (h2 : s'.blks = s.blks) (h3 : s'.free = s.free) : Lay (W.setCell ⟨sb, j, none⟩ u) sb vr vb vf s' := by
  refine ⟨?_, ?_, ?_, ?_⟩
  · rw [ho]; exact heap_set h.obj j u
  · rw [h1]; exact own_other h.row h.obj (by decide) j u
  · rw [h2]; exact own_other h.blk h.obj (by decide) j u
  · rw [h3]; exact own_other h.free h.obj (by decide) j u
/-- a block's cell is written -/
theorem Lay.bstore (h : Lay W sb vr vb vf s) {n B O : Nat} {b c : Blk} (hb : s.get n = some b) (hp : Pt sb vb n B O) (j : Nat) (hj : j < 5) (u : Value) (hc : c.cells = b.cells.set j u) : Lay (W.setCell ⟨B, O + j, none⟩ u) sb vr vb vf (s.set n c) := by
  unfold Sto.get at hb
  rcases hp with ⟨rfl, rfl, rfl⟩ | ⟨hn, e, rfl⟩
  · simp at hb
    subst hb
    refine h.store _ _ ?_ rfl rfl rfl
    simp only [Blk.cells] at hc
    match j, hj with
    | 0, _ | 1, _ | 2, _ | 3, _ | 4, _ => simp at hc; simp [Sto.obj, Sto.set, hc]
  · rw [if_neg hn] at hb
    have hi := (List.getElem?_eq_some_iff.1 hb).1
    obtain ⟨g, cap, rfl, _⟩ := own_slice h.blk (Nat.lt_of_le_of_lt (Nat.zero_le _) hi)
    simp [Value.ownBlock] at e
    subst e
    have hst := h.blk.stored ((n - 1) * 5 + j) u
    rw [flat_set _ _ _ _ _ _ hb hj hc] at hst
    obtain ⟨_, hq⟩ := h.blk
    rcases hq with ⟨hq, _⟩ | ⟨g', cap', cur, hq, _, hgg, _⟩
    · cases hq
    · simp at hq
      obtain ⟨rfl, rfl⟩ := hq
      refine ⟨?_, ?_, ?_, ?_⟩
      · rw [Below.heap_setCell _ _ _ _ (by rintro rfl; have := h.obj; rw [hgg] at this; simp at this)]
        simp only [Sto.set, if_neg hn]
        exact h.obj
      · simp only [Sto.set, if_neg hn]
        exact own_other h.row hgg (by decide) _ u
      · simp only [Sto.set, if_neg hn, List.length_set]
        exact hst.1
      · simp only [Sto.set, if_neg hn]
        exact own_other h.free hgg (by decide) _ u
/-- a byte of the row is written -/
theorem Lay.rstore (h : Lay W sb vr vb vf s) {g cap : Nat} (hr : vr = .slice (some ⟨g, 0, none⟩) s.row.length cap) (j : Nat) (n : Nat) : Lay (W.setCell ⟨g, j, none⟩ (byteV n)) sb vr vb vf { s with row := s.row.set j n } := by
  subst hr
  have hst := (h.row.stored j (byteV n)).1
  obtain ⟨_, hq⟩ := h.row
  rcases hq with ⟨hq, _⟩ | ⟨g', cap', cur, hq, _, hgg, _⟩
  · cases hq
  · simp at hq
    obtain ⟨rfl, rfl⟩ := hq
    refine ⟨?_, ?_, own_other h.blk hgg (by decide) _ _, own_other h.free hgg (by decide) _ _⟩
    · rw [Below.heap_setCell _ _ _ _ (by rintro rfl; have := h.obj; rw [hgg] at this; simp at this)]
      exact h.obj
    · show World.ownsRow _ 0 5 1 (.slice (some ⟨g, 0, none⟩) s.row.length cap) (s.row.set j n).length ((s.row.set j n).map byteV)
      rw [List.length_set, List.map_set]
      exact hst
theorem Own.pt {S : Nat → Prop} (h : Own S sb vr vb vf) {n B O : Nat} (hp : Pt sb vb n B O) : S B := by
  rcases hp with ⟨_, rfl, _⟩ | ⟨_, e, _⟩
  · exact h.sb
  · exact h.blk _ e
end
end Go.Proofs.YtgkakflnmpoadaaGreatDoor.W
/- Package store: the small functions that only read. -/
namespace Go.Proofs.YtgkakflnmpoadaaGreatDoor.W
open Go.ChangeShapes Go.WideShapes Go.RowKit

/-- a length, rounded up -/
def up8 (n : Int) : Int := (n + 7) / 8 * 8
theorem and_not7 (n : Int) (h0 : 0 ≤ n) (h1 : n ≤ 2000000000) : bits .andNot .i64 n 7 = n / 8 * 8 := by
  obtain ⟨a, rfl⟩ := Int.eq_ofNat_of_zero_le h0
  show IntKind.i64.wrap ((BitVec.ofInt 64 (a : Int) &&& ~~~BitVec.ofInt 64 7).toNat : Int) = _
  have h7 : (BitVec.ofInt 64 7).toNat = 7 := by decide
  rw [BitVec.toNat_and, BitVec.toNat_not, ofInt_u64 a (by omega), h7]
  have e : (2 ^ 64 - 1 - 7 : Nat) = (2 ^ 61 - 1) * 2 ^ 3 := by decide
  rw [e, and_shift, Nat.and_two_pow_sub_one_eq_mod, Nat.mod_eq_of_lt (by omega), IntKind.wrap_i64]
  omega
theorem roundUp_c (n : Int) (w : World) (h0 : 0 ≤ n) (h1 : n ≤ 1000000000) : Calls Tryz.prog 211 #[.int .i64 n] w fun e w' => e = .returned (.int .i64 (up8 n)) ∧ w' = w := by
  have e : bits .andNot .i64 (n + 7) 7 = up8 n := and_not7 (n + 7) (by omega) (by omega)
  go_enter Tryz.func211, Tryz.ntmps211
  go_wp2
  go_ret
  exact ⟨by rw [← e]; rfl, rfl⟩
theorem number_c (n : Int) (w : World) (h0 : 0 ≤ n) (h1 : n ≤ 1000000000) : Calls Tryz.prog 210 #[.int .i64 n] w fun e w' => e = .returned (.int .i64 (n + 1)) ∧ w' = w := by
  go_enter Tryz.func210, Tryz.ntmps210
  go_wp2
  go_ret
  exact ⟨rfl, rfl⟩
theorem block_c (W : World) (sb : Nat) (vr vb vf : Value) (s : Sto) (h : Lay W sb vr vb vf s) (n : Nat) (b : Blk) (hb : s.get n = some b) (hlen : s.blks.length ≤ 1000000000) (B O : Nat) (hp : Pt sb vb n B O) :
    Calls Tryz.prog 257 #[.pointer (some ⟨sb, 0, none⟩), .int .i64 n] W fun e w' => e = .returned (.pointer (some ⟨B, O, none⟩)) ∧ w' = W := by
  rcases hp with ⟨rfl, rfl, rfl⟩ | ⟨hn, e, rfl⟩
  · go_enter Tryz.func257, Tryz.ntmps257
    go_wp2
    go_ret
    exact ⟨rfl, rfl⟩
  · unfold Sto.get at hb
    rw [if_neg hn] at hb
    have hi := (List.getElem?_eq_some_iff.1 hb).1
    obtain ⟨g, cap, rfl, _⟩ := own_slice h.blk (Nat.lt_of_le_of_lt (Nat.zero_le _) hi)
    simp [Value.ownBlock] at e
    subst e
    have c6 := h.cell 6
    simp [Sto.obj] at c6
    have hn0 : ((n : Int) == 0) = false := by simp; exact hn
    obtain ⟨k, rfl⟩ : ∃ k, n = k + 1 := ⟨n - 1, by omega⟩
    simp only [Nat.add_sub_cancel] at hi ⊢
    clear hb hn
    have h0 : (0 : Int) ≤ k := by omega
    have h1 : (k : Int) < s.blks.length := by omega
    go_enter Tryz.func257, Tryz.ntmps257
    go_wp2
    go_ret
    exact ⟨rfl, rfl⟩
theorem end_c (W : World) (B O : Nat) (p l : Int) (hp : W.cell? ⟨B, O + 1, none⟩ = some (.int .i64 p)) (hl : W.cell? ⟨B, O + 2, none⟩ = some (.int .i64 l)) (h0 : 0 ≤ l) (h1 : l ≤ 100000000) (h2 : 0 ≤ p) (h3 : p ≤ 10000000000000) :
    Calls Tryz.prog 261 #[.pointer (some ⟨B, O, none⟩)] W fun e w' => e = .returned (.int .i64 (p + up8 l)) ∧ ∃ m, w' = W.drewN m := by
  have e0 : 0 ≤ up8 l := by unfold up8; omega
  have e1 : up8 l ≤ 1000000000 := by unfold up8; omega
  go_enter Tryz.func261, Tryz.ntmps261
  go_wp2
  go_quiet ((go_at_call 211; exact Calls.quiet_of_same (roundUp_c _ _ h0 (by omega))))
  go_wp2
  go_ret
  exact ⟨rfl, _, rfl⟩
end Go.Proofs.YtgkakflnmpoadaaGreatDoor.W
/- Package store: room, has, part, and the faces that only read. -/
namespace Go.Proofs.YtgkakflnmpoadaaGreatDoor.W
open Go.ChangeShapes Go.WideShapes Go.RowKit

/-- numbers that no sum of which wraps round -/
structure Fit (s : Sto) : Prop where
  len : s.blks.length ≤ 1000000000
  row : s.row.length ≤ 1000000000000
  byte : ∀ n ∈ s.row, n < 256
  used0 : 0 ≤ s.used
  used1 : s.used ≤ 1000000000000
  blk : ∀ n b, s.get n = some b → 0 ≤ b.pos ∧ b.pos ≤ 1000000000000 ∧ 0 ≤ b.len ∧ b.len ≤ 100000000
def Blk.stop (b : Blk) : Int := b.pos + up8 b.len
/-- how many bytes are free behind a block -/
def roomOf (s : Sto) (b : Blk) (m : Nat) (c : Blk) : Int := if m = 0 then 2 * s.used + 64 - b.stop else c.pos - b.stop
section
variable {W : World} {sb : Nat} {vr vb vf : Value} {s : Sto}
theorem Lay.drewN (h : Lay W sb vr vb vf s) (m : Nat) : Lay (W.drewN m) sb vr vb vf s := ⟨h.obj, h.row, h.blk, h.free⟩
theorem bcells (h : Lay W sb vr vb vf s) {n B O : Nat} {b : Blk} (hb : s.get n = some b) (hp : Pt sb vb n B O) : W.cell? ⟨B, O, none⟩ = some (.bool b.live) ∧ W.cell? ⟨B, O + 1, none⟩ = some (.int .i64 b.pos) ∧ W.cell? ⟨B, O + 2, none⟩ = some (.int .i64 b.len) ∧ W.cell? ⟨B, O + 3, none⟩ = some (.int .i64 b.back) ∧ W.cell? ⟨B, O + 4, none⟩ = some (.int .i64 b.next) :=
  ⟨h.bcell hb hp 0 (by omega), h.bcell hb hp 1 (by omega), h.bcell hb hp 2 (by omega), h.bcell hb hp 3 (by omega), h.bcell hb hp 4 (by omega)⟩
theorem stop_le (f : Fit s) {n : Nat} {b : Blk} (hb : s.get n = some b) : 0 ≤ b.stop ∧ b.stop ≤ 1000200000000 := by
  obtain ⟨h1, h2, h3, h4⟩ := f.blk n b hb
  unfold Blk.stop up8
  omega
theorem room_c (h : Lay W sb vr vb vf s) (f : Fit s) (n m : Nat) (b c : Blk) (hb : s.get n = some b) (hm : b.next = m) (hc : s.get m = some c) :
    Calls Tryz.prog 291 #[.pointer (some ⟨sb, 0, none⟩), .int .i64 n] W fun e w' => e = .returned (.int .i64 (roomOf s b m c)) ∧ ∃ q, w' = W.drewN q := by
  obtain ⟨B, O, hp⟩ := h.pt hb
  obtain ⟨B2, O2, hp2⟩ := h.pt hc
  obtain ⟨_, b1, b2, _, b4⟩ := bcells h hb hp
  obtain ⟨_, d1, _, _, _⟩ := bcells h hc hp2
  obtain ⟨f1, f2, f3, f4⟩ := f.blk n b hb
  obtain ⟨g1, g2, g3, g4⟩ := f.blk m c hc
  have u0 := f.used0
  have u1 := f.used1
  have c8 := h.cell 8
  simp [Sto.obj] at c8
  obtain ⟨st0, st1⟩ := stop_le f hb
  have hst : Hid (b.pos + up8 b.len = b.stop) := rfl
  rw [hm] at b4
  have cb := fun k => block_c (W.drewN k) sb vr vb vf s (h.drewN k) n b hb f.len B O hp
  have cb2 := fun k => block_c (W.drewN k) sb vr vb vf s (h.drewN k) m c hc f.len B2 O2 hp2
  have ce : ∀ k, Calls Tryz.prog 261 #[.pointer (some ⟨B, O, none⟩)] (W.drewN k) fun e w' => e = .returned (.int .i64 b.stop) ∧ ∃ m, w' = (W.drewN k).drewN m := fun k => end_c (W.drewN k) B O b.pos b.len b1 b2 f3 f4 f1 (by omega)
  have cb0 := cb 0
  rw [World.drewN_zero] at cb0
  have R : Hid (roomOf s b m c = if m = 0 then 2 * s.used + 64 - b.stop else c.pos - b.stop) := rfl
  by_cases hm0 : m = 0
  · have R0 : Hid (roomOf s b m c = 2 * s.used + 64 - b.stop) := by rw [Hid.out R, if_pos hm0]; exact hid rfl
    have hmb : ((m : Int) == 0) = true := by simp [hm0]
    clear R hp2 d1 cb2 cb hb hc
    go_enter Tryz.func291, Tryz.ntmps291
    go_wp2_with (go_at_call 257; (with_reducible refine cb0.mono ?_); rintro e w' ⟨rfl, hw⟩; (have hw' := hw.symm); subst hw'; clear hw)
    go_quiet ((go_at_call 261; exact Calls.quiet_of (ce _)))
    go_wp2
    go_ret
    exact ⟨by rw [R0.out]; rfl, _, rfl⟩
  · have R0 : Hid (roomOf s b m c = c.pos - b.stop) := by rw [Hid.out R, if_neg hm0]; exact hid rfl
    have hmb : ((m : Int) == 0) = false := by simp [hm0]
    clear R hb hc hm0
    go_enter Tryz.func291, Tryz.ntmps291
    go_wp2_with (go_at_call 257; (with_reducible refine cb0.mono ?_); rintro e w' ⟨rfl, hw⟩; (have hw' := hw.symm); subst hw'; clear hw)
    go_quiet (first | (go_at_call 261; exact Calls.quiet_of (ce _)) | (go_at_call 257; exact Calls.quiet_of_same (cb2 _)))
    go_wp2
    go_ret
    exact ⟨by rw [R0.out]; rfl, _, rfl⟩
end
end Go.Proofs.YtgkakflnmpoadaaGreatDoor.W
/- A range over a function, for whatever iterator: the loop's record, a round, the statement. -/
namespace Go.Proofs.YtgkakflnmpoadaaGreatDoor.W
open Go.ChangeShapes Go.WideShapes Go.RowKit Go.Shelf
set_option linter.unusedVariables false

/-- the record of a loop over a function, and the block for its rounds' deferred calls -/
structure LoopAt (W : World) (L D : Nat) (r : Loop) : Prop where
  lp : W.heap[L]? = some (.loop r)
  defs : W.heap[D]? = some (.deferred (some []))
theorem LoopAt.kept {W W' : World} {L D : Nat} {r : Loop} (h : LoopAt W L D r) (h1 : W'.heap[L]? = W.heap[L]?) (h2 : W'.heap[D]? = W.heap[D]?) : LoopAt W' L D r := ⟨h1.trans h.lp, h2.trans h.defs⟩
theorem LoopAt.put {W : World} {L D : Nat} {r : Loop} (h : LoopAt W L D r) (q : Loop) : LoopAt (W.putObj L (.loop q)) L D q := by
  refine ⟨World.putObj_heap_same (Array.getElem?_eq_some_iff.1 h.lp).1, ?_⟩
  rw [World.putObj_heap_other (by rintro rfl; have := h.lp; rw [h.defs] at this; cases this)]
  exact h.defs
theorem Upd.putObj {S : Nat → Prop} {a b : World} (h : Upd S a b) {L : Nat} (hp : Nx S a b L) (o : Obj) : Upd S a (b.putObj L o) :=
  h.trans ⟨rfl, rfl, rfl, by simp, fun k _ hn => World.putObj_heap_other (by rintro rfl; exact hn hp)⟩

/-- how a round's body is left -/
def bodyWay (L D : Nat) (r : Loop) (Rn : World → Prop) (Rx : Code → World → Prop) : Exit → Act → World → Prop
  | .normal, _, W => LoopAt W L D { r with state := .busy } ∧ Rn (W.putObj L (.loop { r with state := .ready, pending := none }))
  | .ret, _, W => LoopAt W L D { r with state := .busy } ∧ Rx .ret (W.putObj L (.loop { r with state := .done, pending := some .ret }))
  | .exit id, _, W => LoopAt W L D { r with state := .busy } ∧ Rx (.exit id) (W.putObj L (.loop { r with state := .done, pending := some (.exit id) }))
  | _, _, _ => False
/-- a round -/
theorem yield_law {P : Program} {m L D : Nat} {r : Loop} {args : Array Value} {W : World} {Rn : World → Prop} {Rx : Code → World → Prop} (hl : LoopAt W L D r) (hr : r.state = .ready) (hs : args.size = r.params.size) (a1 : Act)
    (hassign : ∀ K : Act → World → Prop, K a1 W → r.assign.wpIn (Fence.wide.inRound L) m P (Exit.then K (fun _ _ _ => False)) { tmps := (r.params.zip args).foldl (fun t (p, v) => t.setIfInBounds p v) r.tmps, defers := [] } W)
    (hbody : ∀ W2, W2 = W.putObj L (.loop { r with state := .busy }) → LoopAt W2 L D { r with state := .busy } → r.body.wpIn (Fence.wide.inRound L) m P (bodyWay L D r Rn Rx) a1 W2) :
    YieldAt Fence.wide m P L args W (fun e W' => (e = .returned (.bool true) ∧ Rn W') ∨ (e = .returned (.bool false) ∧ ∃ c, Rx c W')) := by
  have hy := run_yield (P := P) (args := args) hl.lp hs
  refine ⟨r.fn, _, r.assign, r.body, hy, roundIn_of_wpIn (F := Fence.wide) trivial (hassign _ ⟨_, run_beginRound hl.lp hr, ?_⟩)⟩
  refine wpIn_mono (hbody _ rfl (hl.put _)) ?_
  rintro e a3 W3 hp
  cases e with
  | normal =>
    obtain ⟨h3, h4⟩ := hp
    exact ⟨_, _, run_endRound none h3.lp, .inl ⟨rfl, h4⟩⟩
  | ret =>
    obtain ⟨h3, h4⟩ := hp
    exact ⟨_, _, run_endRound (some .ret) h3.lp, .inr ⟨rfl, _, h4⟩⟩
  | exit id =>
    obtain ⟨h3, h4⟩ := hp
    exact ⟨_, _, run_endRound (some (.exit id)) h3.lp, .inr ⟨rfl, _, h4⟩⟩
  | goto t => exact hp.elim
  | panic ch => exact hp.elim
  | outgrown => exact hp.elim
/-- the statement -/
theorem rf_law {P : Program} {n : Nat} {g : Operand} {ps : Array Tmp} {assign body : Code} {Q : Exit → Act → World → Prop} {a : Act} {w : World} {gf : Nat} {lb : Array Value} (hg : a.eval g = .func (.func gf) #[] lb) (eg : ∀ args w, (callFunc gf args).run P w = .ok (.enter gf args) w)
    (Dn : World → Prop) (Sp : Code → World → Prop)
    (hcall : ∀ (r : Loop) (W1 : World), r.state = .ready → r.pending = none → r.tmps = a.tmps → r.params = ps → r.assign = assign → r.body = body → W1 = (w.alloc (.deferred (some []))).alloc (.loop r) → LoopAt W1 (w.heap.size + 1) w.heap.size r →
      CallsIn Fence.wide (n - 1) P gf (#[.func (.yield (w.heap.size + 1)) #[] #[]] ++ lb) W1 fun e W3 => (∃ v, e = .returned v) ∧ ((Dn W3 ∧ ∃ q : Loop, LoopAt W3 (w.heap.size + 1) w.heap.size q ∧ q.state ≠ .busy ∧ q.pending = none) ∨ (∃ c, Sp c W3 ∧ ∃ q : Loop, LoopAt W3 (w.heap.size + 1) w.heap.size q ∧ q.state ≠ .busy ∧ q.pending = some c)))
    (hdone : ∀ (W3 : World) (q : Loop), Dn W3 → LoopAt (W3.putObj (w.heap.size + 1) (.loop q)) (w.heap.size + 1) w.heap.size q → Q .normal { a with defers := { target := .collected w.heap.size, args := #[] } :: a.defers } (W3.putObj (w.heap.size + 1) (.loop q)))
    (hstop : ∀ (W3 : World) (q : Loop) (c : Code), Sp c W3 → LoopAt (W3.putObj (w.heap.size + 1) (.loop q)) (w.heap.size + 1) w.heap.size q → c.wpIn Fence.wide n P Q { a with defers := { target := .collected w.heap.size, args := #[] } :: a.defers } (W3.putObj (w.heap.size + 1) (.loop q))) :
    (Code.rangeFunc g ps assign body).wpIn Fence.wide n P Q a w := by
  refine wpIn_rangeFunc ?_
  intro fn hfn
  obtain ⟨r, hr⟩ : ∃ r : Loop, r = { state := .ready, pending := none, fn, tmps := a.tmps, params := ps, assign, body, defers := w.heap.size } := ⟨_, rfl⟩
  obtain ⟨W1, hW1⟩ : ∃ W1, W1 = (w.alloc (.deferred (some []))).alloc (.loop r) := ⟨_, rfl⟩
  have hL1 : W1.heap[w.heap.size + 1]? = some (.loop r) := by
    rw [hW1]; have := World.alloc_heap_new (w.alloc (.deferred (some []))) (.loop r); rwa [World.size_alloc] at this
  have hK1 : W1.heap[w.heap.size]? = some (.deferred (some [])) := by
    rw [hW1]; exact (Below.heap_alloc _ _ _ (by simp)).trans (World.alloc_heap_new w _)
  refine ⟨w.heap.size + 1, [{ target := .collected w.heap.size, args := #[] }], W1, { target := .fn (.func gf) lb, args := #[.func (.yield (w.heap.size + 1)) #[] #[]] }, W1, gf, #[.func (.yield (w.heap.size + 1)) #[] #[]] ++ lb, W1, ?_, ?_, ?_, ?_, fun h => by simp [Fence.wide] at h, ?_⟩
  · rw [hW1, hr]; exact run_enterLoop_outer _ _ _ _ _
  · simp only [resolve, hg]
    simp [go_sem]
  · intro f' hf'; trivial
  · simp [invoke, go_sem, eg]
  · refine (hcall r W1 (by rw [hr]) (by rw [hr]) (by rw [hr]) (by rw [hr]) (by rw [hr]) (by rw [hr]) hW1 ⟨hL1, hK1⟩).mono ?_
    rintro e W3 ⟨⟨v, rfl⟩, ⟨hd, q, hq, hs, hp⟩ | ⟨c, hd, q, hq, hs, hp⟩⟩
    · refine ⟨none, _, by rw [← hp]; exact run_endLoop hq.lp hs, ?_⟩
      exact hdone W3 _ hd (hq.put _)
    · refine ⟨some c, _, by rw [← hp]; exact run_endLoop hq.lp hs, ?_⟩
      exact hstop W3 _ c hd (hq.put _)
end Go.Proofs.YtgkakflnmpoadaaGreatDoor.W
/- Package store: the blocks of the ring, one behind the other: the iterator. -/
namespace Go.Proofs.YtgkakflnmpoadaaGreatDoor.W
open Go.ChangeShapes Go.WideShapes Go.RowKit Go.Shelf
set_option linter.unusedVariables false

theorem from_c (W : World) (sb : Nat) (n : Int) : Calls Tryz.prog 290 #[.pointer (some ⟨sb, 0, none⟩), .int .i64 n] W fun e w' => e = .returned (.func (.func 301) #[] #[.pointer (some ⟨W.heap.size + 1, 0, none⟩), .pointer (some ⟨W.heap.size, 0, none⟩)]) ∧ w' = (W.alloc (.cells #[.pointer (some ⟨sb, 0, none⟩)] 40)).alloc (.cells #[.int .i64 n] 3) := by
  go_enter Tryz.func290, Tryz.ntmps290
  go_wp2
  go_ret
  exact ⟨rfl, rfl⟩
/-- how far the iterator is -/
def idxAt (xs : List Nat) (Bn : Nat) (W : World) : Nat := xs.findIdx (fun x : Nat => decide ((W.cell? ⟨Bn, 0, none⟩).map intOf = some (x : Int)))
theorem idxAt_eq (xs : List Nat) (Bn : Nat) (W : World) (i : Nat) (hi : i < xs.length) (hd : xs.Nodup) (hc : W.cell? ⟨Bn, 0, none⟩ = some (.int .i64 (xs[i] : Nat))) : idxAt xs Bn W = i := by
  unfold idxAt
  rw [List.findIdx_eq hi]
  refine ⟨by simp [hc, intOf], fun j hj => ?_⟩
  simp only [hc, Option.map_some, intOf, decide_eq_false_iff_not, Option.some.injEq]
  intro e
  have e' : xs[i] = xs[j] := by omega
  exact List.pairwise_iff_getElem.1 hd j i (by omega) hi hj e'.symm
set_option maxHeartbeats 1000000 in
theorem from1_in (n l Bn Bs sb : Nat) (hn : 1 ≤ n) (xs : List Nat) (hne : 0 < xs.length) (hd : xs.Nodup) (J K : Nat → World → Prop) (E X : World → Prop)
    (hY : ∀ i (hi : i < xs.length) W, J i W → YieldAt Fence.wide (n - 1) Tryz.prog l #[.int .i64 (xs[i] : Nat)] W fun e W' => (e = .returned (.bool true) ∧ K i W') ∨ (e = .returned (.bool false) ∧ X W'))
    (hJ : ∀ i (hi : i < xs.length) W, J i W → W.cell? ⟨Bn, 0, none⟩ = some (.int .i64 (xs[i] : Nat)))
    (hK : ∀ i (hi : i < xs.length) W, K i W → W.cell? ⟨Bn, 0, none⟩ = some (.int .i64 (xs[i] : Nat)) ∧ W.frozen? ⟨Bn, 0, none⟩ = false ∧ W.cell? ⟨Bs, 0, none⟩ = some (.pointer (some ⟨sb, 0, none⟩)) ∧ ∃ B O, Calls Tryz.prog 257 #[.pointer (some ⟨sb, 0, none⟩), .int .i64 (xs[i] : Nat)] W (fun e w' => e = .returned (.pointer (some ⟨B, O, none⟩)) ∧ w' = W) ∧ W.cell? ⟨B, O + 4, none⟩ = some (.int .i64 (xs[i + 1]?.getD 0 : Nat)))
    (hS : ∀ i (hi : i + 1 < xs.length) W, K i W → xs[i + 1] ≠ 0 ∧ J (i + 1) (W.setCell ⟨Bn, 0, none⟩ (.int .i64 (xs[i + 1] : Nat))))
    (hE : ∀ i W, i + 1 = xs.length → K i W → E (W.setCell ⟨Bn, 0, none⟩ (.int .i64 0)))
    (W : World) (h0 : J 0 W) :
    CallsIn Fence.wide n Tryz.prog 301 #[.func (.yield l) #[] #[], .pointer (some ⟨Bn, 0, none⟩), .pointer (some ⟨Bs, 0, none⟩)] W fun e W' => (∃ v, e = .returned v) ∧ (E W' ∨ X W') := by
  refine callsIn_of_wp Tryz.func301 rfl trivial ?_ rfl
  simp only [Tryz.ntmps301, List.size_toArray, List.length_cons, List.length_nil, Nat.reduceAdd, Nat.reduceSub, Array.replicate_succ, Array.replicate_zero, List.push_toArray, List.append_toArray, List.nil_append, List.cons_append]
  gi_wp2
  gi_loopw [5] (fun _ wr => ∃ i, i < xs.length ∧ J i wr) (fun _ wr => xs.length - idxAt xs Bn wr)
  case atStart => exact ⟨0, hne, h0⟩
  case round =>
    obtain ⟨i, hi, hJi⟩ := hrel
    have c1 := hJ i hi wr hJi
    obtain ⟨fn, tmps, assign, body, hy, hR⟩ := hY i hi wr hJi
    gi_wp2
    refine hR.mono ?_
    rintro e W3 (⟨rfl, hK3⟩ | ⟨rfl, hX3⟩)
    · obtain ⟨k1, k2, k3, B, O, cb, k4⟩ := hK i hi W3 hK3
      by_cases hlast : i + 1 < xs.length
      · obtain ⟨hz, hJ4⟩ := hS i hlast W3 hK3
        have ex : xs[i + 1]?.getD 0 = xs[i + 1] := by simp [hlast]
        rw [ex] at k4
        have hz' : (((xs[i + 1] : Nat) : Int) == 0) = false := by simp; omega
        have k5 : (W3.setCell ⟨Bn, 0, none⟩ (.int .i64 (xs[i + 1] : Nat))).cell? ⟨Bn, 0, none⟩ = some (.int .i64 (xs[i + 1] : Nat)) := World.cell?_setCell_same' _ _ _ (by rw [k1]; rfl)
        have hm : Hid (idxAt xs Bn (W3.setCell ⟨Bn, 0, none⟩ (.int .i64 (xs[i + 1] : Nat))) = i + 1) := idxAt_eq xs Bn _ (i + 1) hlast hd k5
        have hm0 : Hid (idxAt xs Bn wr = i) := idxAt_eq xs Bn _ i hi hd c1
        have HJ := hid hJ4
        clear hJ4 hY hJ hK hS hE hJi hy
        gi_wp2_with ((refine ⟨trivial, ?_⟩); gi_at_call 257; (refine (callsIn_wide.2 cb).mono ?_); rintro e w' ⟨rfl, hw⟩; (have hw' := hw.symm); subst hw'; clear hw)
        go_roundw
        case rel => exact ⟨i + 1, hlast, HJ⟩
        case measure => rw [hm.out, hm0.out]; omega
      · have ex : xs[i + 1]?.getD 0 = 0 := by simp [List.getElem?_eq_none (by omega : xs.length ≤ i + 1)]
        rw [ex] at k4
        have hE4 := hid (hE i W3 (by omega) hK3)
        have k5 : (W3.setCell ⟨Bn, 0, none⟩ (.int .i64 0)).cell? ⟨Bn, 0, none⟩ = some (.int .i64 0) := World.cell?_setCell_same' _ _ _ (by rw [k1]; rfl)
        clear hY hJ hK hS hE hJi hy
        gi_wp2_with ((refine ⟨trivial, ?_⟩); gi_at_call 257; (refine (callsIn_wide.2 cb).mono ?_); rintro e w' ⟨rfl, hw⟩; (have hw' := hw.symm); subst hw'; clear hw)
        refine bodyPost_ret (results_none rfl _ _ _) rfl ?_
        exact ⟨⟨_, rfl⟩, .inl hE4.out⟩
    · clear hY hJ hK hS hE hJi hy
      gi_wp2
      go_end0
      exact ⟨⟨_, rfl⟩, .inr hX3⟩
end Go.Proofs.YtgkakflnmpoadaaGreatDoor.W
/- Package store: a range over the blocks of the ring. -/
namespace Go.Proofs.YtgkakflnmpoadaaGreatDoor.W
open Go.ChangeShapes Go.WideShapes Go.RowKit Go.Shelf
set_option linter.unusedVariables false

/-- how the body of a round over the ring is left -/
def ringWay (L D Bn : Nat) (W : World) (In : World → Prop) (Ix : Code → World → Prop) : Exit → Act → World → Prop
  | .normal, _, W' => (W'.heap[L]? = W.heap[L]? ∧ W'.heap[D]? = W.heap[D]? ∧ W'.heap[Bn]? = W.heap[Bn]?) ∧ In W'
  | .ret, _, W' => (W'.heap[L]? = W.heap[L]? ∧ W'.heap[D]? = W.heap[D]? ∧ W'.heap[Bn]? = W.heap[Bn]?) ∧ Ix .ret W'
  | .exit id, _, W' => (W'.heap[L]? = W.heap[L]? ∧ W'.heap[D]? = W.heap[D]? ∧ W'.heap[Bn]? = W.heap[Bn]?) ∧ Ix (.exit id) W'
  | _, _, _ => False
/-- the frame in which a round's body begins: x in the loop's variable -/
def ringAct (pt : Nat) (a : Act) (q x : Nat) : Act := { tmps := (a.tmps.setIfInBounds pt (.int .i64 (x : Int))).setIfInBounds q (.int .i64 (x : Int)), defers := [] }
theorem zip_one (t : Array Value) (pt : Nat) (v : Value) : Array.foldl (fun (t : Array Value) (x : Tmp × Value) => match x with | (p, v) => t.setIfInBounds p v) t (#[pt].zip #[v]) = t.setIfInBounds pt v := by simp
theorem upd_put {W : World} {S : Nat → Prop} {L : Nat} (hL : S L) (o : Obj) : Upd S W (W.putObj L o) := (Upd.refl S W).putObj (.inl hL) o
theorem eg49 : ∀ args w, (callFunc 301 args).run Tryz.prog w = .ok (.enter 301 args) w := enters_of Tryz.func301 (by kernel_rfl) rfl
theorem ring_law {g : Operand} {pt : Nat} {assign body : Code} {Q : Exit → Act → World → Prop} {a : Act} {W0 : World} {Bn Bs sb : Nat} (hg : a.eval g = .func (.func 301) #[] #[.pointer (some ⟨Bn, 0, none⟩), .pointer (some ⟨Bs, 0, none⟩)])
    (xs : List Nat) (hne : 0 < xs.length) (hd : xs.Nodup) (hz : ∀ i (hi : i + 1 < xs.length), xs[i + 1] ≠ 0) (hBn : Boxed W0 Bn 3 (.int .i64 (xs[0] : Nat)))
    (I : Nat → World → Prop) (Ix : Code → World → Prop)
    (hI : ∀ i W W', I i W → Upd (fun k => k = Bn ∨ W0.heap.size ≤ k) W W' → I i W')
    (hIx : ∀ c W W', Ix c W → Upd (fun k => k = Bn ∨ W0.heap.size ≤ k) W W' → Ix c W') (h0 : I 0 W0)
    (hread : ∀ i (hi : i < xs.length) W, I (i + 1) W → W.cell? ⟨Bs, 0, none⟩ = some (.pointer (some ⟨sb, 0, none⟩)) ∧ ∃ B O, Calls Tryz.prog 257 #[.pointer (some ⟨sb, 0, none⟩), .int .i64 (xs[i] : Nat)] W (fun e w' => e = .returned (.pointer (some ⟨B, O, none⟩)) ∧ w' = W) ∧ W.cell? ⟨B, O + 4, none⟩ = some (.int .i64 (xs[i + 1]?.getD 0 : Nat)))
    (q : Nat)
    (hassign : ∀ (L x : Nat) (W : World) (K : Act → World → Prop), K (ringAct pt a q x) W → assign.wpIn (Fence.wide.inRound L) 7 Tryz.prog (Exit.then K (fun _ _ _ => False)) { tmps := a.tmps.setIfInBounds pt (.int .i64 (x : Int)), defers := [] } W)
    (hbody : ∀ (L : Nat) i (hi : i < xs.length) W, L = W0.heap.size + 1 → I i W → W0.heap.size + 2 ≤ W.heap.size → (∃ r, W.heap[L]? = some (.loop r)) → Boxed W Bn 3 (.int .i64 (xs[i] : Nat)) → body.wpIn (Fence.wide.inRound L) 7 Tryz.prog (ringWay L W0.heap.size Bn W (I (i + 1)) Ix) (ringAct pt a q xs[i]) W)
    (hdone : ∀ W, I xs.length W → W.heap[W0.heap.size]? = some (.deferred (some [])) → Q .normal { a with defers := { target := .collected W0.heap.size, args := #[] } :: a.defers } W)
    (hstop : ∀ c W, Ix c W → W.heap[W0.heap.size]? = some (.deferred (some [])) → c.wp Tryz.prog Q { a with defers := { target := .collected W0.heap.size, args := #[] } :: a.defers } W) :
    (Code.rangeFunc g #[pt] assign body).wp Tryz.prog Q a W0 := by
  have hUL : ∀ (W : World) (o : Obj), Upd (fun k => k = Bn ∨ W0.heap.size ≤ k) W (W.putObj (W0.heap.size + 1) o) := fun W o => upd_put (.inr (by omega)) o
  have hBlt := hBn.lt
  refine (wpIn_wide (n := 9)).1 (rf_law hg eg49 (fun W => I xs.length W) Ix ?_ ?_ ?_)
  · intro r W1 hr1 hr2 hr3 hr4 hr5 hr6 hW1 hL1
    have hI1 : I 0 W1 := by
      refine hI 0 W0 W1 h0 ?_
      rw [hW1]; exact ((Upd.refl _ W0).alloc _).alloc _
    have hB1 : Boxed W1 Bn 3 (.int .i64 (xs[0] : Nat)) := by rw [hW1]; exact (hBn.alloc _).alloc _
    have hsz : W0.heap.size + 2 ≤ W1.heap.size := by rw [hW1]; simp
    have key := from1_in 8 (W0.heap.size + 1) Bn Bs sb (by omega) xs hne hd
      (fun i W => I i W ∧ LoopAt W (W0.heap.size + 1) W0.heap.size r ∧ W0.heap.size + 2 ≤ W.heap.size ∧ ∃ hi : i < xs.length, Boxed W Bn 3 (.int .i64 (xs[i] : Nat)))
      (fun i W => I (i + 1) W ∧ LoopAt W (W0.heap.size + 1) W0.heap.size r ∧ W0.heap.size + 2 ≤ W.heap.size ∧ ∃ hi : i < xs.length, Boxed W Bn 3 (.int .i64 (xs[i] : Nat)))
      (fun W => I xs.length W ∧ LoopAt W (W0.heap.size + 1) W0.heap.size r)
      (fun W => ∃ c, Ix c W ∧ LoopAt W (W0.heap.size + 1) W0.heap.size { r with state := .done, pending := some c })
      ?_ ?_ ?_ ?_ ?_ W1 ⟨hI1, hL1, hsz, hne, hB1⟩
    · refine key.mono ?_
      rintro e W3 ⟨hv, ⟨h1, h2⟩ | ⟨c, h1, h2⟩⟩
      · exact ⟨hv, .inl ⟨h1, r, h2, by rw [hr1]; simp, hr2⟩⟩
      · exact ⟨hv, .inr ⟨c, h1, _, h2, by simp, rfl⟩⟩
    · intro i hi W ⟨hi1, hl1, hs1, _, hb1⟩
      have hargs : (#[Value.int .i64 ((xs[i] : Nat) : Int)] : Array Value).size = r.params.size := by rw [hr4]; rfl
      refine YieldAt.mono (yield_law (Rn := fun W' => I (i + 1) W' ∧ LoopAt W' (W0.heap.size + 1) W0.heap.size r ∧ W0.heap.size + 2 ≤ W'.heap.size ∧ ∃ hi : i < xs.length, Boxed W' Bn 3 (.int .i64 (xs[i] : Nat))) (Rx := fun c W' => Ix c W' ∧ LoopAt W' (W0.heap.size + 1) W0.heap.size { r with state := .done, pending := some c }) hl1 hr1 hargs (ringAct pt a q xs[i]) ?_ ?_) ?_
      · intro K hK
        rw [hr5, hr4, hr3]
        rw [zip_one]
        exact hassign _ _ W K hK
      · intro W2 hW2 hl2
        have hI2 : I i W2 := by rw [hW2]; exact hI i W _ hi1 (hUL W _)
        have hb2 : Boxed W2 Bn 3 (.int .i64 (xs[i] : Nat)) := by
          rw [hW2]
          unfold Boxed
          rw [World.putObj_heap_other (by omega)]
          exact hb1
        have hs2 : W0.heap.size + 2 ≤ W2.heap.size := by rw [hW2]; simpa using hs1
        have hbd := hbody _ i hi W2 rfl hI2 hs2 ⟨_, hl2.lp⟩ hb2
        rw [← hr6] at hbd
        refine wpIn_mono hbd ?_
        intro e a3 W3 hp
        have put : ∀ q : Loop, (W3.heap[W0.heap.size + 1]? = W2.heap[W0.heap.size + 1]? ∧ W3.heap[W0.heap.size]? = W2.heap[W0.heap.size]? ∧ W3.heap[Bn]? = W2.heap[Bn]?) → LoopAt W3 (W0.heap.size + 1) W0.heap.size { r with state := .busy } ∧ LoopAt (W3.putObj (W0.heap.size + 1) (.loop q)) (W0.heap.size + 1) W0.heap.size q ∧ Boxed (W3.putObj (W0.heap.size + 1) (.loop q)) Bn 3 (.int .i64 (xs[i] : Nat)) ∧ W0.heap.size + 2 ≤ (W3.putObj (W0.heap.size + 1) (.loop q)).heap.size := by
          rintro q ⟨e1, e2, e3⟩
          have hl3 := hl2.kept e1 e2
          refine ⟨hl3, hl3.put q, ?_, ?_⟩
          · unfold Boxed
            rw [World.putObj_heap_other (by omega), e3]
            exact hb2
          · have := (Array.getElem?_eq_some_iff.1 hl3.lp).1
            simp; omega
        cases e with
        | normal =>
          obtain ⟨hk, hin⟩ := hp
          obtain ⟨p1, p2, p3, p4⟩ := put { r with state := .ready, pending := none } hk
          have er : ({ r with state := .ready, pending := none } : Loop) = r := by cases r; simp_all
          refine ⟨p1, hI _ W3 _ hin (hUL W3 _), ?_, p4, hi, p3⟩
          rw [er] at p2 ⊢
          exact p2
        | ret =>
          obtain ⟨hk, hin⟩ := hp
          obtain ⟨p1, p2, p3, p4⟩ := put { r with state := .done, pending := some .ret } hk
          exact ⟨p1, hIx _ W3 _ hin (hUL W3 _), p2⟩
        | exit id =>
          obtain ⟨hk, hin⟩ := hp
          obtain ⟨p1, p2, p3, p4⟩ := put { r with state := .done, pending := some (.exit id) } hk
          exact ⟨p1, hIx _ W3 _ hin (hUL W3 _), p2⟩
        | goto t => exact hp.elim
        | panic ch => exact hp.elim
        | outgrown => exact hp.elim
      · rintro e W' (⟨rfl, h1⟩ | ⟨rfl, c, h1⟩)
        · exact .inl ⟨rfl, h1⟩
        · exact .inr ⟨rfl, c, h1⟩
    · rintro i hi W ⟨_, _, _, _, hb⟩
      exact hb.cell
    · rintro i hi W ⟨h1, _, _, _, hb⟩
      obtain ⟨r1, r2⟩ := hread i hi W h1
      exact ⟨hb.cell, hb.frozen, r1, r2⟩
    · rintro i hi W ⟨h1, hl, hs, hi', hb⟩
      have hu : Upd (fun k => k = Bn ∨ W0.heap.size ≤ k) W (W.setCell ⟨Bn, 0, none⟩ (.int .i64 (xs[i + 1] : Nat))) := (Upd.refl _ W).setCell (.inl (.inl rfl)) _
      refine ⟨hz i hi, hI _ W _ h1 hu, hl.kept (Below.heap_setCell _ _ _ _ (by show _ ≠ Bn; omega)) (Below.heap_setCell _ _ _ _ (by show _ ≠ Bn; omega)), by simpa [World.setCell] using hs, hi, hb.set _⟩
    · rintro i W hi ⟨h1, hl, hs, hi', hb⟩
      have hu : Upd (fun k => k = Bn ∨ W0.heap.size ≤ k) W (W.setCell ⟨Bn, 0, none⟩ (.int .i64 0)) := (Upd.refl _ W).setCell (.inl (.inl rfl)) _
      rw [← hi]
      exact ⟨hI _ W _ h1 hu, hl.kept (Below.heap_setCell _ _ _ _ (by show _ ≠ Bn; omega)) (Below.heap_setCell _ _ _ _ (by show _ ≠ Bn; omega))⟩
  · intro W3 q hd hl
    exact hdone _ (hI _ W3 _ hd (hUL W3 _)) hl.defs
  · intro W3 q c hs hl
    exact wpIn_wide.2 (hstop c _ (hIx _ W3 _ hs (hUL W3 _)) hl.defs)
end Go.Proofs.YtgkakflnmpoadaaGreatDoor.W
/- Package store: seek. -/
namespace Go.Proofs.YtgkakflnmpoadaaGreatDoor.W
open Go.ChangeShapes Go.WideShapes Go.RowKit Go.Shelf
set_option linter.unusedVariables false
attribute [local go_sem] Oper.semAt_some

theorem Lay.drew {W : World} {sb : Nat} {vr vb vf : Value} {s : Sto} (h : Lay W sb vr vb vf s) : Lay W.drew sb vr vb vf s := ⟨h.obj, h.row, h.blk, h.free⟩
theorem Lay.alloc {W : World} {sb : Nat} {vr vb vf : Value} {s : Sto} (h : Lay W sb vr vb vf s) (o : Obj) : Lay (W.alloc o) sb vr vb vf s := by
  have lt : ∀ {e : TypeId} {size : Nat} {v : Value} {n : Nat} {xs : List Value}, W.ownsRow 0 e size v n xs → ∀ k, v.ownBlock = some k → k < W.heap.size := fun h k e => (h.lt k e).2
  exact h.kept (Below.heap_alloc _ _ _ (Array.getElem?_eq_some_iff.1 h.obj).1) (fun k e => Below.heap_alloc _ _ _ (lt h.row k e)) (fun k e => Below.heap_alloc _ _ _ (lt h.blk k e)) (fun k e => Below.heap_alloc _ _ _ (lt h.free k e))
theorem lay_lt {W : World} {sb : Nat} {vr vb vf : Value} {s : Sto} (h : Lay W sb vr vb vf s) : sb < W.heap.size ∧ (∀ k, vr.ownBlock = some k → k < W.heap.size) ∧ (∀ k, vb.ownBlock = some k → k < W.heap.size) ∧ (∀ k, vf.ownBlock = some k → k < W.heap.size) :=
  ⟨(Array.getElem?_eq_some_iff.1 h.obj).1, fun k e => (h.row.lt k e).2, fun k e => (h.blk.lt k e).2, fun k e => (h.free.lt k e).2⟩
/-- what changes only behind the blocks of the beginning keeps the store -/
theorem lay_far {W Wa Wb : World} {sb : Nat} {vr vb vf : Value} {s s' : Sto} (h : Lay W sb vr vb vf s) (g : Lay Wa sb vr vb vf s') (hs : W.heap.size ≤ Wa.heap.size) {Bn n : Nat} (hu : Upd (fun k => k = Bn ∨ n ≤ k) Wa Wb) (hb : W.heap.size ≤ Bn ∧ W.heap.size ≤ n) : Lay Wb sb vr vb vf s' := by
  obtain ⟨l0, l1, l2, l3⟩ := lay_lt h
  have key : ∀ k, k < W.heap.size → Wb.heap[k]? = Wa.heap[k]? := fun k hk => hu.block k (by omega) (by rintro (rfl | g) <;> omega)
  exact g.kept (key _ l0) (fun k e => key _ (l1 k e)) (fun k e => key _ (l2 k e)) (fun k e => key _ (l3 k e))
theorem upd_far {W Wa Wb : World} {S : Nat → Prop} (g : Upd S W Wa) {Bn n : Nat} (hu : Upd (fun k => k = Bn ∨ n ≤ k) Wa Wb) (h1 : W.heap.size ≤ Bn) (h2 : W.heap.size ≤ n) : Upd S W Wb :=
  ⟨hu.os.trans g.os, hu.tape.trans g.tape, hu.output.trans g.output, Nat.le_trans g.size hu.size, fun k hk hn => (hu.block k (Nat.lt_of_lt_of_le hk g.size) (by rintro (rfl | g) <;> omega)).trans (g.block k hk hn)⟩
theorem box_far {Wa Wb : World} {B t : Nat} {v : Value} (g : Boxed Wa B t v) {Bn n : Nat} (hu : Upd (fun k => k = Bn ∨ n ≤ k) Wa Wb) (h1 : B ≠ Bn) (h2 : B < n) : Boxed Wb B t v := by
  unfold Boxed
  rw [hu.block B g.lt (by rintro (rfl | g) <;> omega)]
  exact g
theorem boxed_set {W : World} {B t : Nat} {v : Value} (h : Boxed W B t v) {sb : Nat} (hne : B ≠ sb) (q : Nat) (u : Value) : Boxed ((W.drewN q).setCell ⟨sb, 9, none⟩ u) B t v := by
  unfold Boxed at *
  rw [Below.heap_setCell _ _ _ _ hne]
  exact h
end Go.Proofs.YtgkakflnmpoadaaGreatDoor.W
/- Package store: link, unlink. -/
namespace Go.Proofs.YtgkakflnmpoadaaGreatDoor.W
open Go.ChangeShapes Go.WideShapes Go.RowKit Go.Shelf
set_option linter.unusedVariables false

theorem get_set_same {s : Sto} {n : Nat} {b : Blk} (h : s.get n = some b) (c : Blk) : (s.set n c).get n = some c := by
  unfold Sto.get Sto.set at *
  split
  · simp
  · rw [if_neg (by assumption)] at h
    have := (List.getElem?_eq_some_iff.1 h).1
    simp [this]
theorem get_set_ne {s : Sto} {n m : Nat} (c : Blk) (h : m ≠ n) : (s.set n c).get m = s.get m := by
  unfold Sto.get Sto.set
  by_cases hn : n = 0
  · rw [if_pos hn, if_neg (by omega), if_neg (by omega)]
  · rw [if_neg hn]
    by_cases hm : m = 0
    · rw [if_pos hm, if_pos hm]
    · rw [if_neg hm, if_neg hm]
      simp only []
      rw [List.getElem?_set_ne (by omega)]
theorem set_row (s : Sto) (n : Nat) (c : Blk) : (s.set n c).row = s.row := by unfold Sto.set; split <;> rfl
theorem set_len (s : Sto) (n : Nat) (c : Blk) : (s.set n c).blks.length = s.blks.length := by unfold Sto.set; split <;> simp
theorem set_free (s : Sto) (n : Nat) (c : Blk) : (s.set n c).free = s.free := by unfold Sto.set; split <;> rfl
theorem set_used (s : Sto) (n : Nat) (c : Blk) : (s.set n c).used = s.used := by unfold Sto.set; split <;> rfl
theorem set_hand (s : Sto) (n : Nat) (c : Blk) : (s.set n c).hand = s.hand := by unfold Sto.set; split <;> rfl
theorem set_sought (s : Sto) (n : Nat) (c : Blk) : (s.set n c).sought = s.sought := by unfold Sto.set; split <;> rfl
theorem set_set (s : Sto) (n : Nat) (b c : Blk) : (s.set n b).set n c = s.set n c := by
  unfold Sto.set
  split <;> simp
def Sto.getD (s : Sto) (n : Nat) : Blk := (s.get n).getD ⟨false, 0, 0, 0, 0⟩
theorem getD_of {s : Sto} {n : Nat} {b : Blk} (h : s.get n = some b) : s.getD n = b := by simp [Sto.getD, h]
def Sto.linked1 (s : Sto) (n bk nx : Nat) : Sto := s.set n { s.getD n with back := bk, next := nx }
def Sto.linked2 (s : Sto) (n bk nx : Nat) : Sto := (s.linked1 n bk nx).set bk { (s.linked1 n bk nx).getD bk with next := n }
/-- a block put into the ring -/
def Sto.linked (s : Sto) (n bk nx : Nat) : Sto := (s.linked2 n bk nx).set nx { (s.linked2 n bk nx).getD nx with back := n }
section
variable {W : World} {sb : Nat} {vr vb vf : Value} {s : Sto}
theorem link_c (h : Lay W sb vr vb vf s) (hlen : s.blks.length ≤ 1000000000) (n bk nx : Nat) (bn bb bx : Blk) (hn : s.get n = some bn) (hb : s.get bk = some bb) (hnx : bb.next = nx) (hx : s.get nx = some bx) (hne1 : bk ≠ n) (hne2 : nx ≠ n) {S : Nat → Prop} (hO : Own S sb vr vb vf) :
    Calls Tryz.prog 262 #[.pointer (some ⟨sb, 0, none⟩), .int .i64 n, .int .i64 bk] W fun e w' => e = .returned (.tuple #[]) ∧ Lay w' sb vr vb vf (s.linked n bk nx) ∧ Upd S W w' := by
  obtain ⟨Bn, On, pn⟩ := h.pt hn
  obtain ⟨Bb, Ob, pb⟩ := h.pt hb
  obtain ⟨Bx, Ox, px⟩ := h.pt hx
  have hU := Upd.refl S W
  have g1 : (s.linked1 n bk nx).get bk = some bb := by unfold Sto.linked1; rw [get_set_ne _ hne1, hb]
  have g2 : ∃ b2, (s.linked2 n bk nx).get nx = some b2 := by
    unfold Sto.linked2
    by_cases e : nx = bk
    · subst e; exact ⟨_, get_set_same g1 _⟩
    · rw [get_set_ne _ e]; unfold Sto.linked1; rw [get_set_ne _ hne2]; exact ⟨_, hx⟩
  obtain ⟨b2, g2⟩ := g2
  have l1 : (s.linked1 n bk nx).blks.length ≤ 1000000000 := by unfold Sto.linked1; rw [set_len]; exact hlen
  have l2 : (s.linked2 n bk nx).blks.length ≤ 1000000000 := by unfold Sto.linked2; rw [set_len]; exact l1
  go_enter Tryz.func262, Tryz.ntmps262
  obtain ⟨_, _, _, _, c4⟩ := bcells h hb pb
  rw [hnx] at c4
  have cb := block_c W sb vr vb vf s h bk bb hb hlen Bb Ob pb
  go_upto_region 1 with (go_at_call 257; (with_reducible refine cb.mono ?_); rintro e w' ⟨rfl, hw⟩; (have hw' := hw.symm); subst hw'; clear hw)
  clear cb c4
  have cb := block_c W sb vr vb vf s h n bn hn hlen Bn On pn
  obtain ⟨_, _, _, d3, d4⟩ := bcells h hn pn
  have t3 := h.bthaw hn pn 3
  have t4 := h.bthaw hn pn 4
  go_upto_region 2 with (go_at_call 257; (with_reducible refine cb.mono ?_); rintro e w' ⟨rfl, hw⟩; (have hw' := hw.symm); subst hw'; clear hw)
  have h1 := (h.bstore (c := { bn with back := bk }) hn pn 3 (by omega) (.int .i64 bk) rfl)
  have h2 := (h1.bstore (c := { bn with back := bk, next := nx }) (get_set_same hn _) pn 4 (by omega) (.int .i64 nx) rfl)
  have e1 : (s.set n { bn with back := bk }).set n { bn with back := bk, next := nx } = s.linked1 n bk nx := by rw [set_set]; unfold Sto.linked1; rw [getD_of hn]
  have hL1 : Lay ((W.setCell ⟨Bn, On + 3, none⟩ (.int .i64 bk)).setCell ⟨Bn, On + 4, none⟩ (.int .i64 nx)) sb vr vb vf (s.linked1 n bk nx) := by rw [← e1]; exact h2
  have hU1 := (hU.setCell (p := ⟨Bn, On + 3, none⟩) (.inl (hO.pt pn)) (.int .i64 bk)).setCell (p := ⟨Bn, On + 4, none⟩) (.inl (hO.pt pn)) (.int .i64 nx)
  clear h1 h2 e1 cb d3 d4 t3 t4
  generalize World.setCell (World.setCell W _ _) _ _ = W1 at *
  have cb := block_c W1 sb vr vb vf _ hL1 bk bb g1 l1 Bb Ob pb
  obtain ⟨_, _, _, _, d4⟩ := bcells hL1 g1 pb
  have t4 := hL1.bthaw g1 pb 4
  go_upto_region 3 with (go_at_call 257; (with_reducible refine cb.mono ?_); rintro e w' ⟨rfl, hw⟩; (have hw' := hw.symm); subst hw'; clear hw)
  have hL2 : Lay (W1.setCell ⟨Bb, Ob + 4, none⟩ (.int .i64 n)) sb vr vb vf (s.linked2 n bk nx) := hL1.bstore g1 pb 4 (by omega) (.int .i64 n) (by rw [getD_of g1]; rfl)
  have hU2 := hU1.setCell (p := ⟨Bb, Ob + 4, none⟩) (.inl (hO.pt pb)) (.int .i64 n)
  clear cb d4 t4 hL1 hU1
  generalize World.setCell W1 _ _ = W2 at *
  have cb := block_c W2 sb vr vb vf _ hL2 nx b2 g2 l2 Bx Ox px
  obtain ⟨_, _, _, d3, _⟩ := bcells hL2 g2 px
  have t3 := hL2.bthaw g2 px 3
  have hL3 : Lay (W2.setCell ⟨Bx, Ox + 3, none⟩ (.int .i64 n)) sb vr vb vf (s.linked n bk nx) := hL2.bstore g2 px 3 (by omega) (.int .i64 n) (by rw [getD_of g2]; rfl)
  have hU3 := hid (hU2.setCell (p := ⟨Bx, Ox + 3, none⟩) (.inl (hO.pt px)) (.int .i64 n))
  have HL := hid hL3
  clear hL3
  go_wp2_with (go_at_call 257; (with_reducible refine cb.mono ?_); rintro e w' ⟨rfl, hw⟩; (have hw' := hw.symm); subst hw'; clear hw)
  go_end0
  exact ⟨rfl, HL, hU3⟩
end
end Go.Proofs.YtgkakflnmpoadaaGreatDoor.W
