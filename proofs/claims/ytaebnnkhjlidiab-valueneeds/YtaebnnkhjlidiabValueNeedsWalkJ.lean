import Derived.Test.YtaebnnkhjlidiabV7eJ
import Derived.Test.YtaebnnkhjlidiabCellOpenJ
/- ValueNeeds: the walk. -/
namespace Go.Proofs.Ytaebnnkhjlidiab.W
open Go.ChangeShapes Go.WideShapes Go.RowKit Go.Shelf
set_option linter.unusedVariables false
theorem reach_nil (ws : List Nat) : reachN [] ws = 0 := by
  unfold reachN
  cases rchB [] ws <;> rfl
theorem reach_one (c : Hc) : reachN [some c] [hw 0] = c.need := by
  unfold reachN
  rw [← zipK_sum, zip_all]
  · rfl
  · intro i d hd
    have hi : i < 1 := (List.getElem?_eq_some_iff.1 hd).1
    obtain rfl : i = 0 := by omega
    exact .root (hw 0) 0 (by simp) (hit_hw (by omega) hd)
section
variable {W0 W W1 : World} {hb : Nat} {H : List (Option Hc)} {u : Nat}
theorem hs_new2 (hB : Below W0.heap.size W0 W) (u : Nat) (hu : u ≤ 1048576) : Calls Try.prog 7 #[.int .i64 u] W fun e w' => ∃ hb, e = .returned (.tuple #[.pointer (some ⟨hb, 0, none⟩), .int .i64 0]) ∧ Hs W0 w' hb [] u ∧ Below W.heap.size W w' := by
  refine (hnew_c u hu W).mono ?_
  rintro e w' ⟨hb, rfl, hB', g⟩
  have h1 := hB.size
  exact ⟨hb, rfl, ⟨hB.trans (hB'.mono h1), g.mono (fun k e => ⟨by omega, e.2⟩)⟩, hB'⟩
theorem vn_reach (q : Hs W0 W hb H u) (X m : Nat) (hX : X < 18446744073709551616) (hm : reachN H [X] = m) :
    Calls Try.prog 10 #[.pointer (some ⟨hb, 0, none⟩), .slice (some ⟨W.heap.size, 0, none⟩) 1 1] (W.alloc (.cells #[.int .u64 (X : Nat)] 30)) fun e w' => e = .returned (.int .i64 (m : Nat)) ∧ Hs W0 w' hb H u := by
  have hB1 : Below W.heap.size W (W.alloc (.cells #[.int .u64 (X : Nat)] 30)) := (Below.refl _ W).alloc (Nat.le_refl _) _
  have h64 : ∀ w ∈ [X], w < 18446744073709551616 := by
    intro w hw
    rw [List.mem_singleton.1 hw]; exact hX
  have := hs_reach q hB1 _ _ (words_new W [X] _ h64 (by simp) rfl 30)
  rw [hm] at this
  exact this
end
theorem below_drewN {B : Nat} {a b : World} (h : Below B a b) (m : Nat) : Below B a (b.drewN m) := ⟨h.os, h.tape, h.output, h.size, h.block⟩
theorem put_new {W0 w' : World} {hb u : Nat} {c : Hc} {e : Ending} (h : HsPost W0 hb (roomH [] u c []) u c e w') : (c.need ≤ u ∧ e = .returned (.tuple #[.int .u64 (hw 0 : Nat), .int .i64 0]) ∧ Hs W0 w' hb [some c] u) ∨ (u < c.need ∧ e = .returned (.tuple #[.int .u64 0, .int .i64 40]) ∧ Hs W0 w' hb [] u) := by
  have e0 : roomH [] u c [] = [] := by unfold roomH; split <;> simp [zipK]
  rw [e0] at h
  have s0 : sumH [] = 0 := rfl
  rcases h with ⟨h1, h2, h3⟩ | ⟨h1, h2, h3⟩
  · exact .inl ⟨by omega, h2, h3⟩
  · exact .inr ⟨by omega, h2, h3⟩
theorem vn_box (kd i bi re : Int) (t : ByteArray) (w : World) : ∀ w2, Below (w.alloc (.cells #[.int .i64 kd, .int .i64 i, .int .u64 bi, .string t, .int .u64 re] 40)).heap.size (w.alloc (.cells #[.int .i64 kd, .int .i64 i, .int .u64 bi, .string t, .int .u64 re] 40)) w2 → w.heap.size < w2.heap.size := by
  intro w2 hB2
  have hs1 : (w.alloc (.cells #[.int .i64 kd, .int .i64 i, .int .u64 bi, .string t, .int .u64 re] 40)).heap.size = w.heap.size + 1 := World.size_alloc ..
  have := hB2.size
  omega
theorem vn_nil  (n : Nat) (hn' : n ≤ 100) (w : World) : Calls Try.prog 6 #[.agg #[.int .i64 0, .int .i64 0, .int .u64 0, .string ⟨#[]⟩, .int .u64 0], .int .i64 n] w fun e w' => e = .returned (.bool true) ∧ Below w.heap.size w w' := by
  have hn : n ≤ 1048576 := by omega
  have cp := lplain_yes 0 0 0 0 ⟨#[]⟩ (.inl ⟨rfl, rfl, rfl, rfl, rfl⟩) (w.alloc (.cells #[.int .i64 0, .int .i64 0, .int .u64 0, .string ⟨#[]⟩, .int .u64 0] 40))
  have vb := hid (vbox 0 0 0 0 ⟨#[]⟩ w)
  have hz := hid (vn_box 0 0 0 0 ⟨#[]⟩ w)
  have u0 : ¬ (n : Int) < 0 := by omega
  have u1 : ¬ (n : Int) > 100 := by omega
  obtain ⟨X, hXe⟩ : ∃ X : Nat, X = 18444492273895866368 := ⟨_, rfl⟩
  have hXl : ((X : Nat) : Int) = 18444492273895866368 := by omega
  have hX2 : X < 18446744073709551616 := by omega
  have hcl : cls 18444492273895866368 = 3 := by decide
  have cc := fun w => refClass_c 18444492273895866368 (by decide) (by decide) w
  rw [hcl] at cc
  go_enter Try.func6, Try.ntmps6
  go_upto_region 11 with (first | (go_at_call 18; (with_reducible refine cp.mono ?_); rintro e w2 ⟨rfl, hB2⟩; clear cp; (obtain ⟨n2, hBx⟩ := vb.out w2 hB2); (have p3 := n2 3); (simp only [List.getElem?_toArray, List.getElem?_cons_succ, List.getElem?_cons_zero] at p3)) | (go_at_call 7; (with_reducible refine (hs_new2 hBx n hn).mono ?_); rintro e W3 ⟨hb, rfl, q3, hB3⟩; (have n3 := (fun j => (show W3.cell? ⟨w.heap.size, j, none⟩ = _ from (World.cell?_of_block (hB3.block w.heap.size (hz.out w2 hB2))).trans (n2 j)))); (have r0 := n3 0); (have r1 := n3 1); (have r3 := n3 3); (simp only [List.getElem?_toArray, List.getElem?_cons_succ, List.getElem?_cons_zero] at r0 r1 r3)))
  have cb := box_nil (.pointer (some ⟨hb, 0, none⟩)) (.slice none 0 0) W3
  go_upto_region 14 with (go_at_call 12; (with_reducible refine cb.mono ?_); rintro e W4 ⟨rfl, hB4⟩; clear cb)
  have cr := vn_reach (q3.below hB4) X 0 hX2 (reach_nil _)
  rw [show ((0 : Nat) : Int) = 0 from rfl] at cr
  rw [hXl] at cr
  clear n2 n3 vb hz q3 hB3 hB2
  go_wp2_with (first | (go_at_call 10; (with_reducible refine cr.mono ?_); rintro e W5 ⟨rfl, q5⟩; clear cr) | (go_at_call 13; (with_reducible refine (cc _).mono ?_); rintro e w6 ⟨rfl, hw6⟩; (obtain ⟨m6, hw6⟩ := hw6); (have hw7 := hw6.symm); subst hw7; clear hw6) | (go_at_call 16; (with_reducible refine (awake7_c _).mono ?_); rintro e W7 ⟨rfl, hB7⟩))
  go_ret
  exact ⟨rfl, (below_drewN q5.1 m6).trans (hB7.mono (below_drewN q5.1 m6).size)⟩
theorem vn_false  (n : Nat) (hn' : n ≤ 100) (w : World) : Calls Try.prog 6 #[.agg #[.int .i64 1, .int .i64 0, .int .u64 0, .string ⟨#[]⟩, .int .u64 0], .int .i64 n] w fun e w' => e = .returned (.bool true) ∧ Below w.heap.size w w' := by
  have hn : n ≤ 1048576 := by omega
  have cp := lplain_yes 1 0 0 0 ⟨#[]⟩ (.inr (.inl ⟨rfl, .inl rfl, rfl, rfl, rfl⟩)) (w.alloc (.cells #[.int .i64 1, .int .i64 0, .int .u64 0, .string ⟨#[]⟩, .int .u64 0] 40))
  have vb := hid (vbox 1 0 0 0 ⟨#[]⟩ w)
  have hz := hid (vn_box 1 0 0 0 ⟨#[]⟩ w)
  have u0 : ¬ (n : Int) < 0 := by omega
  have u1 : ¬ (n : Int) > 100 := by omega
  obtain ⟨X, hXe⟩ : ∃ X : Nat, X = 18444492273895866369 := ⟨_, rfl⟩
  have hXl : ((X : Nat) : Int) = 18444492273895866369 := by omega
  have hX2 : X < 18446744073709551616 := by omega
  have hcl : cls 18444492273895866369 = 4 := by decide
  have cc := fun w => refClass_c 18444492273895866369 (by decide) (by decide) w
  rw [hcl] at cc
  go_enter Try.func6, Try.ntmps6
  go_upto_region 11 with (first | (go_at_call 18; (with_reducible refine cp.mono ?_); rintro e w2 ⟨rfl, hB2⟩; clear cp; (obtain ⟨n2, hBx⟩ := vb.out w2 hB2); (have p3 := n2 3); (simp only [List.getElem?_toArray, List.getElem?_cons_succ, List.getElem?_cons_zero] at p3)) | (go_at_call 7; (with_reducible refine (hs_new2 hBx n hn).mono ?_); rintro e W3 ⟨hb, rfl, q3, hB3⟩; (have n3 := (fun j => (show W3.cell? ⟨w.heap.size, j, none⟩ = _ from (World.cell?_of_block (hB3.block w.heap.size (hz.out w2 hB2))).trans (n2 j)))); (have r0 := n3 0); (have r1 := n3 1); (have r3 := n3 3); (simp only [List.getElem?_toArray, List.getElem?_cons_succ, List.getElem?_cons_zero] at r0 r1 r3)))
  have cb := box_bool (.pointer (some ⟨hb, 0, none⟩)) (.slice none 0 0) false 0 rfl W3
  rw [show boolW false = 18444492273895866369 from rfl] at cb
  go_upto_region 14 with (go_at_call 12; (with_reducible refine cb.mono ?_); rintro e W4 ⟨rfl, hB4⟩; clear cb)
  have cr := vn_reach (q3.below hB4) X 0 hX2 (reach_nil _)
  rw [show ((0 : Nat) : Int) = 0 from rfl] at cr
  rw [hXl] at cr
  clear n2 n3 vb hz q3 hB3 hB2
  go_wp2_with (first | (go_at_call 10; (with_reducible refine cr.mono ?_); rintro e W5 ⟨rfl, q5⟩; clear cr) | (go_at_call 13; (with_reducible refine (cc _).mono ?_); rintro e w6 ⟨rfl, hw6⟩; (obtain ⟨m6, hw6⟩ := hw6); (have hw7 := hw6.symm); subst hw7; clear hw6) | (go_at_call 16; (with_reducible refine (awake7_c _).mono ?_); rintro e W7 ⟨rfl, hB7⟩))
  go_ret
  exact ⟨rfl, (below_drewN q5.1 m6).trans (hB7.mono (below_drewN q5.1 m6).size)⟩
theorem vn_true  (n : Nat) (hn' : n ≤ 100) (w : World) : Calls Try.prog 6 #[.agg #[.int .i64 1, .int .i64 1, .int .u64 0, .string ⟨#[]⟩, .int .u64 0], .int .i64 n] w fun e w' => e = .returned (.bool true) ∧ Below w.heap.size w w' := by
  have hn : n ≤ 1048576 := by omega
  have cp := lplain_yes 1 1 0 0 ⟨#[]⟩ (.inr (.inl ⟨rfl, .inr rfl, rfl, rfl, rfl⟩)) (w.alloc (.cells #[.int .i64 1, .int .i64 1, .int .u64 0, .string ⟨#[]⟩, .int .u64 0] 40))
  have vb := hid (vbox 1 1 0 0 ⟨#[]⟩ w)
  have hz := hid (vn_box 1 1 0 0 ⟨#[]⟩ w)
  have u0 : ¬ (n : Int) < 0 := by omega
  have u1 : ¬ (n : Int) > 100 := by omega
  obtain ⟨X, hXe⟩ : ∃ X : Nat, X = 18444492273895866370 := ⟨_, rfl⟩
  have hXl : ((X : Nat) : Int) = 18444492273895866370 := by omega
  have hX2 : X < 18446744073709551616 := by omega
  have hcl : cls 18444492273895866370 = 4 := by decide
  have cc := fun w => refClass_c 18444492273895866370 (by decide) (by decide) w
  rw [hcl] at cc
  go_enter Try.func6, Try.ntmps6
  go_upto_region 11 with (first | (go_at_call 18; (with_reducible refine cp.mono ?_); rintro e w2 ⟨rfl, hB2⟩; clear cp; (obtain ⟨n2, hBx⟩ := vb.out w2 hB2); (have p3 := n2 3); (simp only [List.getElem?_toArray, List.getElem?_cons_succ, List.getElem?_cons_zero] at p3)) | (go_at_call 7; (with_reducible refine (hs_new2 hBx n hn).mono ?_); rintro e W3 ⟨hb, rfl, q3, hB3⟩; (have n3 := (fun j => (show W3.cell? ⟨w.heap.size, j, none⟩ = _ from (World.cell?_of_block (hB3.block w.heap.size (hz.out w2 hB2))).trans (n2 j)))); (have r0 := n3 0); (have r1 := n3 1); (have r3 := n3 3); (simp only [List.getElem?_toArray, List.getElem?_cons_succ, List.getElem?_cons_zero] at r0 r1 r3)))
  have cb := box_bool (.pointer (some ⟨hb, 0, none⟩)) (.slice none 0 0) true 1 rfl W3
  rw [show boolW true = 18444492273895866370 from rfl] at cb
  go_upto_region 14 with (go_at_call 12; (with_reducible refine cb.mono ?_); rintro e W4 ⟨rfl, hB4⟩; clear cb)
  have cr := vn_reach (q3.below hB4) X 0 hX2 (reach_nil _)
  rw [show ((0 : Nat) : Int) = 0 from rfl] at cr
  rw [hXl] at cr
  clear n2 n3 vb hz q3 hB3 hB2
  go_wp2_with (first | (go_at_call 10; (with_reducible refine cr.mono ?_); rintro e W5 ⟨rfl, q5⟩; clear cr) | (go_at_call 13; (with_reducible refine (cc _).mono ?_); rintro e w6 ⟨rfl, hw6⟩; (obtain ⟨m6, hw6⟩ := hw6); (have hw7 := hw6.symm); subst hw7; clear hw6) | (go_at_call 16; (with_reducible refine (awake7_c _).mono ?_); rintro e W7 ⟨rfl, hB7⟩))
  go_ret
  exact ⟨rfl, (below_drewN q5.1 m6).trans (hB7.mono (below_drewN q5.1 m6).size)⟩
theorem vn_float (bi : Int) (h0 : 0 ≤ bi) (h1 : bi < 18446744073709551616) (n : Nat) (hn' : n ≤ 100) (w : World) : Calls Try.prog 6 #[.agg #[.int .i64 3, .int .i64 0, .int .u64 bi, .string ⟨#[]⟩, .int .u64 0], .int .i64 n] w fun e w' => e = .returned (.bool true) ∧ Below w.heap.size w w' := by
  have hn : n ≤ 1048576 := by omega
  have cp := lplain_yes 3 0 bi 0 ⟨#[]⟩ (.inr (.inr (.inr (.inl ⟨rfl, rfl, rfl, rfl⟩)))) (w.alloc (.cells #[.int .i64 3, .int .i64 0, .int .u64 bi, .string ⟨#[]⟩, .int .u64 0] 40))
  have vb := hid (vbox 3 0 bi 0 ⟨#[]⟩ w)
  have hz := hid (vn_box 3 0 bi 0 ⟨#[]⟩ w)
  have u0 : ¬ (n : Int) < 0 := by omega
  have u1 : ¬ (n : Int) > 100 := by omega
  have hf : 0 ≤ fltW bi ∧ fltW bi < 18446744073709551616 := by unfold fltW; split <;> omega
  obtain ⟨X, hX⟩ : ∃ X : Nat, fltW bi = X := ⟨(fltW bi).toNat, by omega⟩
  have hX2 : X < 18446744073709551616 := by omega
  have hcl := fltW_cls bi
  rw [hX] at hcl
  have cc := fun w => refClass_c (X : Int) (by omega) (by omega) w
  rw [hcl] at cc
  go_enter Try.func6, Try.ntmps6
  go_upto_region 11 with (first | (go_at_call 18; (with_reducible refine cp.mono ?_); rintro e w2 ⟨rfl, hB2⟩; clear cp; (obtain ⟨n2, hBx⟩ := vb.out w2 hB2); (have p3 := n2 3); (simp only [List.getElem?_toArray, List.getElem?_cons_succ, List.getElem?_cons_zero] at p3)) | (go_at_call 7; (with_reducible refine (hs_new2 hBx n hn).mono ?_); rintro e W3 ⟨hb, rfl, q3, hB3⟩; (have n3 := (fun j => (show W3.cell? ⟨w.heap.size, j, none⟩ = _ from (World.cell?_of_block (hB3.block w.heap.size (hz.out w2 hB2))).trans (n2 j)))); (have r0 := n3 0); (have r1 := n3 1); (have r3 := n3 3); (simp only [List.getElem?_toArray, List.getElem?_cons_succ, List.getElem?_cons_zero] at r0 r1 r3)))
  have cb := box_float (.pointer (some ⟨hb, 0, none⟩)) (.slice none 0 0) bi h0 h1 W3
  rw [hX] at cb
  go_upto_region 14 with (go_at_call 12; (with_reducible refine cb.mono ?_); rintro e W4 ⟨rfl, hB4⟩; clear cb)
  have cr := vn_reach (q3.below hB4) X 0 hX2 (reach_nil _)
  rw [show ((0 : Nat) : Int) = 0 from rfl] at cr
  clear n2 n3 vb hz q3 hB3 hB2
  go_wp2_with (first | (go_at_call 10; (with_reducible refine cr.mono ?_); rintro e W5 ⟨rfl, q5⟩; clear cr) | (go_at_call 13; (with_reducible refine (cc _).mono ?_); rintro e w6 ⟨rfl, hw6⟩; (obtain ⟨m6, hw6⟩ := hw6); (have hw7 := hw6.symm); subst hw7; clear hw6) | (go_at_call 16; (with_reducible refine (awake7_c _).mono ?_); rintro e W7 ⟨rfl, hB7⟩))
  go_ret
  exact ⟨rfl, (below_drewN q5.1 m6).trans (hB7.mono (below_drewN q5.1 m6).size)⟩
theorem vn_int (i : Int) (h0 : -9223372036854775808 ≤ i) (h1 : i ≤ 9223372036854775807) (hs : smallB i = true) (n : Nat) (hn' : n ≤ 100) (w : World) : Calls Try.prog 6 #[.agg #[.int .i64 2, .int .i64 i, .int .u64 0, .string ⟨#[]⟩, .int .u64 0], .int .i64 n] w fun e w' => e = .returned (.bool true) ∧ Below w.heap.size w w' := by
  have hn : n ≤ 1048576 := by omega
  have cp := lplain_yes 2 i 0 0 ⟨#[]⟩ (.inr (.inr (.inl ⟨rfl, rfl, rfl, rfl⟩))) (w.alloc (.cells #[.int .i64 2, .int .i64 i, .int .u64 0, .string ⟨#[]⟩, .int .u64 0] 40))
  have vb := hid (vbox 2 i 0 0 ⟨#[]⟩ w)
  have hz := hid (vn_box 2 i 0 0 ⟨#[]⟩ w)
  have u0 : ¬ (n : Int) < 0 := by omega
  have u1 : ¬ (n : Int) > 100 := by omega
  have hsm : -140737488355328 ≤ i ∧ i ≤ 140737488355327 := by simpa [smallB] using hs
  have s1 : ¬ i < -140737488355328 := by omega
  have s2 : ¬ i ≥ 140737488355328 := by omega
  obtain ⟨X, hX⟩ : ∃ X : Nat, intW i = X := ⟨(intW i).toNat, by unfold intW; rw [if_pos hs]; omega⟩
  have hX2 : X < 18446744073709551616 := by unfold intW at hX; rw [if_pos hs] at hX; omega
  have hcl := intW_cls i hs
  rw [hX] at hcl
  have cc := fun w => refClass_c (X : Int) (by omega) (by omega) w
  rw [hcl] at cc
  go_enter Try.func6, Try.ntmps6
  go_upto_region 11 with (first | (go_at_call 18; (with_reducible refine cp.mono ?_); rintro e w2 ⟨rfl, hB2⟩; clear cp; (obtain ⟨n2, hBx⟩ := vb.out w2 hB2); (have p3 := n2 3); (simp only [List.getElem?_toArray, List.getElem?_cons_succ, List.getElem?_cons_zero] at p3)) | (go_at_call 7; (with_reducible refine (hs_new2 hBx n hn).mono ?_); rintro e W3 ⟨hb, rfl, q3, hB3⟩; (have n3 := (fun j => (show W3.cell? ⟨w.heap.size, j, none⟩ = _ from (World.cell?_of_block (hB3.block w.heap.size (hz.out w2 hB2))).trans (n2 j)))); (have r0 := n3 0); (have r1 := n3 1); (have r3 := n3 3); (simp only [List.getElem?_toArray, List.getElem?_cons_succ, List.getElem?_cons_zero] at r0 r1 r3)))
  have cb := box_int (.pointer (some ⟨hb, 0, none⟩)) (.slice none 0 0) i (fun w e w' => e = .returned (.tuple #[.int .u64 (intW i), .int .i64 0]) ∧ w' = w) (fun w e w' h => ⟨_, _, h.1⟩) W3 (fun w _ => boxInt_small _ _ i h0 h1 hs w)
  rw [hX] at cb
  go_upto_region 14 with (go_at_call 12; (with_reducible refine cb.mono ?_); rintro e W4 ⟨wq, hB4, rfl, rfl⟩; clear cb)
  have cr := vn_reach (q3.below hB4) X 0 hX2 (reach_nil _)
  rw [show ((0 : Nat) : Int) = 0 from rfl] at cr
  clear n2 n3 vb hz q3 hB3 hB2
  go_wp2_with (first | (go_at_call 10; (with_reducible refine cr.mono ?_); rintro e W5 ⟨rfl, q5⟩; clear cr) | (go_at_call 13; (with_reducible refine (cc _).mono ?_); rintro e w6 ⟨rfl, hw6⟩; (obtain ⟨m6, hw6⟩ := hw6); (have hw7 := hw6.symm); subst hw7; clear hw6) | (go_at_call 16; (with_reducible refine (awake7_c _).mono ?_); rintro e W7 ⟨rfl, hB7⟩))
  go_ret
  exact ⟨rfl, (below_drewN q5.1 m6).trans (hB7.mono (below_drewN q5.1 m6).size)⟩
theorem vn_text (t : ByteArray) (hs : t.size ≤ 5) (n : Nat) (hn' : n ≤ 100) (w : World) : Calls Try.prog 6 #[.agg #[.int .i64 4, .int .i64 0, .int .u64 0, .string t, .int .u64 0], .int .i64 n] w fun e w' => e = .returned (.bool true) ∧ Below w.heap.size w w' := by
  have hn : n ≤ 1048576 := by omega
  have cp := lplain_yes 4 0 0 0 t (.inr (.inr (.inr (.inr ⟨rfl, rfl, rfl, rfl⟩)))) (w.alloc (.cells #[.int .i64 4, .int .i64 0, .int .u64 0, .string t, .int .u64 0] 40))
  have vb := hid (vbox 4 0 0 0 t w)
  have hz := hid (vn_box 4 0 0 0 t w)
  have u0 : ¬ (n : Int) < 0 := by omega
  have u1 : ¬ (n : Int) > 100 := by omega
  have v0 : ¬ (t.size : Int) > 300 := by omega
  have v1 : ¬ (t.size : Int) > 5 := by omega
  have hcl := txtW_cls t hs
  have hf : 0 ≤ txtW t ∧ txtW t < 18446744073709551616 := by
    refine ⟨by unfold txtW; rw [if_pos hs]; omega, ?_⟩
    unfold cls at hcl
    repeat' (split at hcl <;> try omega)
  obtain ⟨X, hX⟩ : ∃ X : Nat, txtW t = X := ⟨(txtW t).toNat, by omega⟩
  have hX2 : X < 18446744073709551616 := by omega
  rw [hX] at hcl
  have cc := fun w => refClass_c (X : Int) (by omega) (by omega) w
  rw [hcl] at cc
  go_enter Try.func6, Try.ntmps6
  go_upto_region 11 with (first | (go_at_call 18; (with_reducible refine cp.mono ?_); rintro e w2 ⟨rfl, hB2⟩; clear cp; (obtain ⟨n2, hBx⟩ := vb.out w2 hB2); (have p3 := n2 3); (simp only [List.getElem?_toArray, List.getElem?_cons_succ, List.getElem?_cons_zero] at p3)) | (go_at_call 7; (with_reducible refine (hs_new2 hBx n hn).mono ?_); rintro e W3 ⟨hb, rfl, q3, hB3⟩; (have n3 := (fun j => (show W3.cell? ⟨w.heap.size, j, none⟩ = _ from (World.cell?_of_block (hB3.block w.heap.size (hz.out w2 hB2))).trans (n2 j)))); (have r0 := n3 0); (have r1 := n3 1); (have r3 := n3 3); (simp only [List.getElem?_toArray, List.getElem?_cons_succ, List.getElem?_cons_zero] at r0 r1 r3)))
  have cb := box_text (.pointer (some ⟨hb, 0, none⟩)) (.slice none 0 0) t (fun w e w' => e = .returned (.tuple #[.int .u64 (txtW t), .int .i64 0]) ∧ w' = w) (fun w e w' h => ⟨_, _, h.1⟩) W3 (fun w _ => boxText_small _ _ t hs w)
  rw [hX] at cb
  go_upto_region 14 with (go_at_call 12; (with_reducible refine cb.mono ?_); rintro e W4 ⟨wq, hB4, rfl, rfl⟩; clear cb)
  have cr := vn_reach (q3.below hB4) X 0 hX2 (reach_nil _)
  rw [show ((0 : Nat) : Int) = 0 from rfl] at cr
  clear n2 n3 vb hz q3 hB3 hB2
  go_wp2_with (first | (go_at_call 10; (with_reducible refine cr.mono ?_); rintro e W5 ⟨rfl, q5⟩; clear cr) | (go_at_call 13; (with_reducible refine (cc _).mono ?_); rintro e w6 ⟨rfl, hw6⟩; (obtain ⟨m6, hw6⟩ := hw6); (have hw7 := hw6.symm); subst hw7; clear hw6) | (go_at_call 16; (with_reducible refine (awake7_c _).mono ?_); rintro e W7 ⟨rfl, hB7⟩))
  go_ret
  exact ⟨rfl, (below_drewN q5.1 m6).trans (hB7.mono (below_drewN q5.1 m6).size)⟩
theorem vn_intLow (i : Int) (h0 : -9223372036854775808 ≤ i) (h1 : i ≤ 9223372036854775807) (hs : smallB i = false) (s1 : i < -140737488355328) (n : Nat) (hn' : n ≤ 100) (w : World) : Calls Try.prog 6 #[.agg #[.int .i64 2, .int .i64 i, .int .u64 0, .string ⟨#[]⟩, .int .u64 0], .int .i64 n] w fun e w' => e = .returned (.bool true) ∧ Below w.heap.size w w' := by
  have hn : n ≤ 1048576 := by omega
  have cp := lplain_yes 2 i 0 0 ⟨#[]⟩ (.inr (.inr (.inl ⟨rfl, rfl, rfl, rfl⟩))) (w.alloc (.cells #[.int .i64 2, .int .i64 i, .int .u64 0, .string ⟨#[]⟩, .int .u64 0] 40))
  have vb := hid (vbox 2 i 0 0 ⟨#[]⟩ w)
  have hz := hid (vn_box 2 i 0 0 ⟨#[]⟩ w)
  have u0 : ¬ (n : Int) < 0 := by omega
  have u1 : ¬ (n : Int) > 100 := by omega
  have cc := fun w => refClass_c 18445336698825998336 (by decide) (by decide) w
  rw [show cls 18445336698825998336 = 6 by decide] at cc
  by_cases hfit : 2 ≤ n
  · have hq : ¬ (2 : Int) > n := by omega
    go_enter Try.func6, Try.ntmps6
    go_upto_region 11 with (first | (go_at_call 18; (with_reducible refine cp.mono ?_); rintro e w2 ⟨rfl, hB2⟩; clear cp; (obtain ⟨n2, hBx⟩ := vb.out w2 hB2); (have p3 := n2 3); (simp only [List.getElem?_toArray, List.getElem?_cons_succ, List.getElem?_cons_zero] at p3)) | (go_at_call 7; (with_reducible refine (hs_new2 hBx n hn).mono ?_); rintro e W3 ⟨hb, rfl, q3, hB3⟩; (have n3 := (fun j => (show W3.cell? ⟨w.heap.size, j, none⟩ = _ from (World.cell?_of_block (hB3.block w.heap.size (hz.out w2 hB2))).trans (n2 j)))); (have r0 := n3 0); (have r1 := n3 1); (have r3 := n3 3); (simp only [List.getElem?_toArray, List.getElem?_cons_succ, List.getElem?_cons_zero] at r0 r1 r3)))
    have cb : Calls Try.prog 12 #[.pointer (some ⟨hb, 0, none⟩), .agg #[.int .i64 2, .int .i64 i, .int .u64 0, .string ⟨#[]⟩, .int .u64 0], .slice none 0 0] W3 fun e w' => e = .returned (.tuple #[.int .u64 18445336698825998336, .int .i64 0]) ∧ Hs w w' hb [some (.num i)] n := by
      refine (box_int (.pointer (some ⟨hb, 0, none⟩)) (.slice none 0 0) i (fun _ e w' => HsPost w hb (roomH [] n (.num i) []) n (.num i) e w') (fun _ e w' h => by rcases h with ⟨_, rfl, _⟩ | ⟨_, rfl, _⟩ <;> exact ⟨_, _, rfl⟩) W3 (fun w1 hB => boxInt_big q3 hB (.slice none 0 0) [] (words_nil w1 _ _) i h0 h1 hs)).mono ?_
      rintro e w' ⟨_, _, h⟩
      rcases put_new h with ⟨_, h2, h3⟩ | ⟨h1, _⟩
      · exact ⟨h2, h3⟩
      · rw [aw_need0] at h1; omega
    go_upto_region 14 with (go_at_call 12; (with_reducible refine cb.mono ?_); rintro e W4 ⟨rfl, q4⟩; clear cb)
    have cr := vn_reach q4 (hw 0) (2) (by decide) (by rw [reach_one, aw_need0])
    rw [show ((hw 0 : Nat) : Int) = 18445336698825998336 from rfl, show ((2 : Nat) : Int) = 2 from rfl] at cr
    clear n2 n3 vb hz q3 hB3 hB2
    go_wp2_with (first | (go_at_call 10; (with_reducible refine cr.mono ?_); rintro e W5 ⟨rfl, q5⟩; clear cr) | (go_at_call 13; (with_reducible refine (cc _).mono ?_); rintro e w6 ⟨rfl, hw6⟩; (obtain ⟨m6, hw6⟩ := hw6); (have hw7 := hw6.symm); subst hw7; clear hw6) | (go_at_call 16; (with_reducible refine (awake7_c _).mono ?_); rintro e W7 ⟨rfl, hB7⟩))
    go_ret
    exact ⟨rfl, (below_drewN q5.1 m6).trans (hB7.mono (below_drewN q5.1 m6).size)⟩
  · have hq : (2 : Int) > n := by omega
    go_enter Try.func6, Try.ntmps6
    go_upto_region 11 with (first | (go_at_call 18; (with_reducible refine cp.mono ?_); rintro e w2 ⟨rfl, hB2⟩; clear cp; (obtain ⟨n2, hBx⟩ := vb.out w2 hB2); (have p3 := n2 3); (simp only [List.getElem?_toArray, List.getElem?_cons_succ, List.getElem?_cons_zero] at p3)) | (go_at_call 7; (with_reducible refine (hs_new2 hBx n hn).mono ?_); rintro e W3 ⟨hb, rfl, q3, hB3⟩; (have n3 := (fun j => (show W3.cell? ⟨w.heap.size, j, none⟩ = _ from (World.cell?_of_block (hB3.block w.heap.size (hz.out w2 hB2))).trans (n2 j)))); (have r0 := n3 0); (have r1 := n3 1); (have r3 := n3 3); (simp only [List.getElem?_toArray, List.getElem?_cons_succ, List.getElem?_cons_zero] at r0 r1 r3)))
    have cb : Calls Try.prog 12 #[.pointer (some ⟨hb, 0, none⟩), .agg #[.int .i64 2, .int .i64 i, .int .u64 0, .string ⟨#[]⟩, .int .u64 0], .slice none 0 0] W3 fun e w' => e = .returned (.tuple #[.int .u64 0, .int .i64 40]) ∧ Hs w w' hb [] n := by
      refine (box_int (.pointer (some ⟨hb, 0, none⟩)) (.slice none 0 0) i (fun _ e w' => HsPost w hb (roomH [] n (.num i) []) n (.num i) e w') (fun _ e w' h => by rcases h with ⟨_, rfl, _⟩ | ⟨_, rfl, _⟩ <;> exact ⟨_, _, rfl⟩) W3 (fun w1 hB => boxInt_big q3 hB (.slice none 0 0) [] (words_nil w1 _ _) i h0 h1 hs)).mono ?_
      rintro e w' ⟨_, _, h⟩
      rcases put_new h with ⟨h1, _⟩ | ⟨_, h2, h3⟩
      · rw [aw_need0] at h1; omega
      · exact ⟨h2, h3⟩
    clear cc
    go_wp2_with (first | (go_at_call 12; (with_reducible refine cb.mono ?_); rintro e W4 ⟨rfl, q4⟩; clear cb) | (go_at_call 16; (with_reducible refine (awake7_c _).mono ?_); rintro e W7 ⟨rfl, hB7⟩))
    go_ret
    exact ⟨rfl, q4.1.trans (hB7.mono q4.1.size)⟩
theorem vn_intHigh (i : Int) (h0 : -9223372036854775808 ≤ i) (h1 : i ≤ 9223372036854775807) (hs : smallB i = false) (s2 : i ≥ 140737488355328) (n : Nat) (hn' : n ≤ 100) (w : World) : Calls Try.prog 6 #[.agg #[.int .i64 2, .int .i64 i, .int .u64 0, .string ⟨#[]⟩, .int .u64 0], .int .i64 n] w fun e w' => e = .returned (.bool true) ∧ Below w.heap.size w w' := by
  have hn : n ≤ 1048576 := by omega
  have cp := lplain_yes 2 i 0 0 ⟨#[]⟩ (.inr (.inr (.inl ⟨rfl, rfl, rfl, rfl⟩))) (w.alloc (.cells #[.int .i64 2, .int .i64 i, .int .u64 0, .string ⟨#[]⟩, .int .u64 0] 40))
  have vb := hid (vbox 2 i 0 0 ⟨#[]⟩ w)
  have hz := hid (vn_box 2 i 0 0 ⟨#[]⟩ w)
  have u0 : ¬ (n : Int) < 0 := by omega
  have u1 : ¬ (n : Int) > 100 := by omega
  have s1 : ¬ i < -140737488355328 := by omega
  have cc := fun w => refClass_c 18445336698825998336 (by decide) (by decide) w
  rw [show cls 18445336698825998336 = 6 by decide] at cc
  by_cases hfit : 2 ≤ n
  · have hq : ¬ (2 : Int) > n := by omega
    go_enter Try.func6, Try.ntmps6
    go_upto_region 11 with (first | (go_at_call 18; (with_reducible refine cp.mono ?_); rintro e w2 ⟨rfl, hB2⟩; clear cp; (obtain ⟨n2, hBx⟩ := vb.out w2 hB2); (have p3 := n2 3); (simp only [List.getElem?_toArray, List.getElem?_cons_succ, List.getElem?_cons_zero] at p3)) | (go_at_call 7; (with_reducible refine (hs_new2 hBx n hn).mono ?_); rintro e W3 ⟨hb, rfl, q3, hB3⟩; (have n3 := (fun j => (show W3.cell? ⟨w.heap.size, j, none⟩ = _ from (World.cell?_of_block (hB3.block w.heap.size (hz.out w2 hB2))).trans (n2 j)))); (have r0 := n3 0); (have r1 := n3 1); (have r3 := n3 3); (simp only [List.getElem?_toArray, List.getElem?_cons_succ, List.getElem?_cons_zero] at r0 r1 r3)))
    have cb : Calls Try.prog 12 #[.pointer (some ⟨hb, 0, none⟩), .agg #[.int .i64 2, .int .i64 i, .int .u64 0, .string ⟨#[]⟩, .int .u64 0], .slice none 0 0] W3 fun e w' => e = .returned (.tuple #[.int .u64 18445336698825998336, .int .i64 0]) ∧ Hs w w' hb [some (.num i)] n := by
      refine (box_int (.pointer (some ⟨hb, 0, none⟩)) (.slice none 0 0) i (fun _ e w' => HsPost w hb (roomH [] n (.num i) []) n (.num i) e w') (fun _ e w' h => by rcases h with ⟨_, rfl, _⟩ | ⟨_, rfl, _⟩ <;> exact ⟨_, _, rfl⟩) W3 (fun w1 hB => boxInt_big q3 hB (.slice none 0 0) [] (words_nil w1 _ _) i h0 h1 hs)).mono ?_
      rintro e w' ⟨_, _, h⟩
      rcases put_new h with ⟨_, h2, h3⟩ | ⟨h1, _⟩
      · exact ⟨h2, h3⟩
      · rw [aw_need0] at h1; omega
    go_upto_region 14 with (go_at_call 12; (with_reducible refine cb.mono ?_); rintro e W4 ⟨rfl, q4⟩; clear cb)
    have cr := vn_reach q4 (hw 0) (2) (by decide) (by rw [reach_one, aw_need0])
    rw [show ((hw 0 : Nat) : Int) = 18445336698825998336 from rfl, show ((2 : Nat) : Int) = 2 from rfl] at cr
    clear n2 n3 vb hz q3 hB3 hB2
    go_wp2_with (first | (go_at_call 10; (with_reducible refine cr.mono ?_); rintro e W5 ⟨rfl, q5⟩; clear cr) | (go_at_call 13; (with_reducible refine (cc _).mono ?_); rintro e w6 ⟨rfl, hw6⟩; (obtain ⟨m6, hw6⟩ := hw6); (have hw7 := hw6.symm); subst hw7; clear hw6) | (go_at_call 16; (with_reducible refine (awake7_c _).mono ?_); rintro e W7 ⟨rfl, hB7⟩))
    go_ret
    exact ⟨rfl, (below_drewN q5.1 m6).trans (hB7.mono (below_drewN q5.1 m6).size)⟩
  · have hq : (2 : Int) > n := by omega
    go_enter Try.func6, Try.ntmps6
    go_upto_region 11 with (first | (go_at_call 18; (with_reducible refine cp.mono ?_); rintro e w2 ⟨rfl, hB2⟩; clear cp; (obtain ⟨n2, hBx⟩ := vb.out w2 hB2); (have p3 := n2 3); (simp only [List.getElem?_toArray, List.getElem?_cons_succ, List.getElem?_cons_zero] at p3)) | (go_at_call 7; (with_reducible refine (hs_new2 hBx n hn).mono ?_); rintro e W3 ⟨hb, rfl, q3, hB3⟩; (have n3 := (fun j => (show W3.cell? ⟨w.heap.size, j, none⟩ = _ from (World.cell?_of_block (hB3.block w.heap.size (hz.out w2 hB2))).trans (n2 j)))); (have r0 := n3 0); (have r1 := n3 1); (have r3 := n3 3); (simp only [List.getElem?_toArray, List.getElem?_cons_succ, List.getElem?_cons_zero] at r0 r1 r3)))
    have cb : Calls Try.prog 12 #[.pointer (some ⟨hb, 0, none⟩), .agg #[.int .i64 2, .int .i64 i, .int .u64 0, .string ⟨#[]⟩, .int .u64 0], .slice none 0 0] W3 fun e w' => e = .returned (.tuple #[.int .u64 0, .int .i64 40]) ∧ Hs w w' hb [] n := by
      refine (box_int (.pointer (some ⟨hb, 0, none⟩)) (.slice none 0 0) i (fun _ e w' => HsPost w hb (roomH [] n (.num i) []) n (.num i) e w') (fun _ e w' h => by rcases h with ⟨_, rfl, _⟩ | ⟨_, rfl, _⟩ <;> exact ⟨_, _, rfl⟩) W3 (fun w1 hB => boxInt_big q3 hB (.slice none 0 0) [] (words_nil w1 _ _) i h0 h1 hs)).mono ?_
      rintro e w' ⟨_, _, h⟩
      rcases put_new h with ⟨h1, _⟩ | ⟨_, h2, h3⟩
      · rw [aw_need0] at h1; omega
      · exact ⟨h2, h3⟩
    clear cc
    go_wp2_with (first | (go_at_call 12; (with_reducible refine cb.mono ?_); rintro e W4 ⟨rfl, q4⟩; clear cb) | (go_at_call 16; (with_reducible refine (awake7_c _).mono ?_); rintro e W7 ⟨rfl, hB7⟩))
    go_ret
    exact ⟨rfl, q4.1.trans (hB7.mono q4.1.size)⟩
theorem vn_textBig (t : ByteArray) (hs : ¬ t.size ≤ 5) (hl : t.size ≤ 300) (n : Nat) (hn' : n ≤ 100) (w : World) : Calls Try.prog 6 #[.agg #[.int .i64 4, .int .i64 0, .int .u64 0, .string t, .int .u64 0], .int .i64 n] w fun e w' => e = .returned (.bool true) ∧ Below w.heap.size w w' := by
  have hn : n ≤ 1048576 := by omega
  have cp := lplain_yes 4 0 0 0 t (.inr (.inr (.inr (.inr ⟨rfl, rfl, rfl, rfl⟩)))) (w.alloc (.cells #[.int .i64 4, .int .i64 0, .int .u64 0, .string t, .int .u64 0] 40))
  have vb := hid (vbox 4 0 0 0 t w)
  have hz := hid (vn_box 4 0 0 0 t w)
  have u0 : ¬ (n : Int) < 0 := by omega
  have u1 : ¬ (n : Int) > 100 := by omega
  have v0 : ¬ (t.size : Int) > 300 := by omega
  have v1 : (t.size : Int) > 5 := by omega
  have cc := fun w => refClass_c 18445336698825998336 (by decide) (by decide) w
  rw [show cls 18445336698825998336 = 6 by decide] at cc
  by_cases hfit : 1 + (t.size + 7) / 8 ≤ n
  · have hq : ¬ (1 + ((t.size : Int) + 7) / 8 : Int) > n := by omega
    go_enter Try.func6, Try.ntmps6
    go_upto_region 11 with (first | (go_at_call 18; (with_reducible refine cp.mono ?_); rintro e w2 ⟨rfl, hB2⟩; clear cp; (obtain ⟨n2, hBx⟩ := vb.out w2 hB2); (have p3 := n2 3); (simp only [List.getElem?_toArray, List.getElem?_cons_succ, List.getElem?_cons_zero] at p3)) | (go_at_call 7; (with_reducible refine (hs_new2 hBx n hn).mono ?_); rintro e W3 ⟨hb, rfl, q3, hB3⟩; (have n3 := (fun j => (show W3.cell? ⟨w.heap.size, j, none⟩ = _ from (World.cell?_of_block (hB3.block w.heap.size (hz.out w2 hB2))).trans (n2 j)))); (have r0 := n3 0); (have r1 := n3 1); (have r3 := n3 3); (simp only [List.getElem?_toArray, List.getElem?_cons_succ, List.getElem?_cons_zero] at r0 r1 r3)))
    have cb : Calls Try.prog 12 #[.pointer (some ⟨hb, 0, none⟩), .agg #[.int .i64 4, .int .i64 0, .int .u64 0, .string t, .int .u64 0], .slice none 0 0] W3 fun e w' => e = .returned (.tuple #[.int .u64 18445336698825998336, .int .i64 0]) ∧ Hs w w' hb [some (.text (strB t))] n := by
      refine (box_text (.pointer (some ⟨hb, 0, none⟩)) (.slice none 0 0) t (fun _ e w' => HsPost w hb (roomH [] n (.text (strB t)) []) n (.text (strB t)) e w') (fun _ e w' h => by rcases h with ⟨_, rfl, _⟩ | ⟨_, rfl, _⟩ <;> exact ⟨_, _, rfl⟩) W3 (fun w1 hB => boxText_big q3 hB (.slice none 0 0) [] (words_nil w1 _ _) t (by omega) hs)).mono ?_
      rintro e w' ⟨_, _, h⟩
      rcases put_new h with ⟨_, h2, h3⟩ | ⟨h1, _⟩
      · exact ⟨h2, h3⟩
      · rw [text_need] at h1; omega
    go_upto_region 14 with (go_at_call 12; (with_reducible refine cb.mono ?_); rintro e W4 ⟨rfl, q4⟩; clear cb)
    have cr := vn_reach q4 (hw 0) (1 + (t.size + 7) / 8) (by decide) (by rw [reach_one, text_need])
    rw [show ((hw 0 : Nat) : Int) = 18445336698825998336 from rfl, show ((1 + (t.size + 7) / 8 : Nat) : Int) = 1 + ((t.size : Int) + 7) / 8 by omega] at cr
    clear n2 n3 vb hz q3 hB3 hB2
    go_wp2_with (first | (go_at_call 10; (with_reducible refine cr.mono ?_); rintro e W5 ⟨rfl, q5⟩; clear cr) | (go_at_call 13; (with_reducible refine (cc _).mono ?_); rintro e w6 ⟨rfl, hw6⟩; (obtain ⟨m6, hw6⟩ := hw6); (have hw7 := hw6.symm); subst hw7; clear hw6) | (go_at_call 16; (with_reducible refine (awake7_c _).mono ?_); rintro e W7 ⟨rfl, hB7⟩))
    go_ret
    exact ⟨rfl, (below_drewN q5.1 m6).trans (hB7.mono (below_drewN q5.1 m6).size)⟩
  · have hq : (1 + ((t.size : Int) + 7) / 8 : Int) > n := by omega
    go_enter Try.func6, Try.ntmps6
    go_upto_region 11 with (first | (go_at_call 18; (with_reducible refine cp.mono ?_); rintro e w2 ⟨rfl, hB2⟩; clear cp; (obtain ⟨n2, hBx⟩ := vb.out w2 hB2); (have p3 := n2 3); (simp only [List.getElem?_toArray, List.getElem?_cons_succ, List.getElem?_cons_zero] at p3)) | (go_at_call 7; (with_reducible refine (hs_new2 hBx n hn).mono ?_); rintro e W3 ⟨hb, rfl, q3, hB3⟩; (have n3 := (fun j => (show W3.cell? ⟨w.heap.size, j, none⟩ = _ from (World.cell?_of_block (hB3.block w.heap.size (hz.out w2 hB2))).trans (n2 j)))); (have r0 := n3 0); (have r1 := n3 1); (have r3 := n3 3); (simp only [List.getElem?_toArray, List.getElem?_cons_succ, List.getElem?_cons_zero] at r0 r1 r3)))
    have cb : Calls Try.prog 12 #[.pointer (some ⟨hb, 0, none⟩), .agg #[.int .i64 4, .int .i64 0, .int .u64 0, .string t, .int .u64 0], .slice none 0 0] W3 fun e w' => e = .returned (.tuple #[.int .u64 0, .int .i64 40]) ∧ Hs w w' hb [] n := by
      refine (box_text (.pointer (some ⟨hb, 0, none⟩)) (.slice none 0 0) t (fun _ e w' => HsPost w hb (roomH [] n (.text (strB t)) []) n (.text (strB t)) e w') (fun _ e w' h => by rcases h with ⟨_, rfl, _⟩ | ⟨_, rfl, _⟩ <;> exact ⟨_, _, rfl⟩) W3 (fun w1 hB => boxText_big q3 hB (.slice none 0 0) [] (words_nil w1 _ _) t (by omega) hs)).mono ?_
      rintro e w' ⟨_, _, h⟩
      rcases put_new h with ⟨h1, _⟩ | ⟨_, h2, h3⟩
      · rw [text_need] at h1; omega
      · exact ⟨h2, h3⟩
    clear cc
    go_wp2_with (first | (go_at_call 12; (with_reducible refine cb.mono ?_); rintro e W4 ⟨rfl, q4⟩; clear cb) | (go_at_call 16; (with_reducible refine (awake7_c _).mono ?_); rintro e W7 ⟨rfl, hB7⟩))
    go_ret
    exact ⟨rfl, q4.1.trans (hB7.mono q4.1.size)⟩
theorem valueNeeds_walk (kd i bi : Int) (t : ByteArray) (re : Int) (wk : (Lit.int .i64 kd).wf = true) (wi : (Lit.int .i64 i).wf = true) (wb : (Lit.int .u64 bi).wf = true) (wt : t.size ≤ maxLen) (wr : (Lit.int .u64 re).wf = true) (n : Int) (wn : (Lit.int .i64 n).wf = true) (w : World) :
    Calls Try.prog 6 #[.agg #[.int .i64 kd, .int .i64 i, .int .u64 bi, .string t, .int .u64 re], .int .i64 n] w fun e w' => e = .returned (.bool true) ∧ Below w.heap.size w w' := by
  have vb := hid (vbox kd i bi re t w)
  by_cases hp : PV kd i bi re t
  · by_cases ht : t.size > 300
    · have cp := lplain_yes kd i bi re t hp (w.alloc (.cells #[.int .i64 kd, .int .i64 i, .int .u64 bi, .string t, .int .u64 re] 40))
      have ht' : (t.size : Int) > 300 := by omega
      go_enter Try.func6, Try.ntmps6
      go_wp2_with (go_at_call 18; (with_reducible refine cp.mono ?_); rintro e w2 ⟨rfl, hB2⟩; clear cp; (obtain ⟨n2, hBx⟩ := vb.out w2 hB2); (have p3 := n2 3); (simp only [List.getElem?_toArray, List.getElem?_cons_succ, List.getElem?_cons_zero] at p3))
      go_ret
      exact ⟨rfl, hBx⟩
    have ht' : ¬ (t.size : Int) > 300 := by omega
    by_cases hn0 : n < 0
    · have cp := lplain_yes kd i bi re t hp (w.alloc (.cells #[.int .i64 kd, .int .i64 i, .int .u64 bi, .string t, .int .u64 re] 40))
      go_enter Try.func6, Try.ntmps6
      go_wp2_with (go_at_call 18; (with_reducible refine cp.mono ?_); rintro e w2 ⟨rfl, hB2⟩; clear cp; (obtain ⟨n2, hBx⟩ := vb.out w2 hB2); (have p3 := n2 3); (simp only [List.getElem?_toArray, List.getElem?_cons_succ, List.getElem?_cons_zero] at p3))
      go_ret
      exact ⟨rfl, hBx⟩
    by_cases hn1 : n > 100
    · have cp := lplain_yes kd i bi re t hp (w.alloc (.cells #[.int .i64 kd, .int .i64 i, .int .u64 bi, .string t, .int .u64 re] 40))
      go_enter Try.func6, Try.ntmps6
      go_wp2_with (go_at_call 18; (with_reducible refine cp.mono ?_); rintro e w2 ⟨rfl, hB2⟩; clear cp; (obtain ⟨n2, hBx⟩ := vb.out w2 hB2); (have p3 := n2 3); (simp only [List.getElem?_toArray, List.getElem?_cons_succ, List.getElem?_cons_zero] at p3))
      go_ret
      exact ⟨rfl, hBx⟩
    obtain ⟨m, rfl⟩ : ∃ m : Nat, n = m := ⟨n.toNat, by omega⟩
    have hm : m ≤ 100 := by omega
    have hi : -9223372036854775808 ≤ i ∧ i ≤ 9223372036854775807 := by
      simp [Lit.wf] at wi
      have e1 : IntKind.i64.min = -9223372036854775808 := by decide
      have e2 : IntKind.i64.max = 9223372036854775807 := by decide
      omega
    have hbi : 0 ≤ bi ∧ bi < 18446744073709551616 := by
      simp [Lit.wf] at wb
      have e1 : IntKind.u64.min = 0 := by decide
      have e2 : IntKind.u64.max = 18446744073709551615 := by decide
      omega
    rcases hp with ⟨rfl, rfl, rfl, rfl, rfl⟩ | ⟨rfl, hj, rfl, rfl, rfl⟩ | ⟨rfl, rfl, rfl, rfl⟩ | ⟨rfl, rfl, rfl, rfl⟩ | ⟨rfl, rfl, rfl, rfl⟩
    · exact vn_nil m hm w
    · rcases hj with rfl | rfl
      · exact vn_false m hm w
      · exact vn_true m hm w
    · cases hs : smallB i
      · by_cases s1 : i < -140737488355328
        · exact vn_intLow i hi.1 hi.2 hs s1 m hm w
        · have s2 : i ≥ 140737488355328 := by
            have : ¬ (-140737488355328 ≤ i ∧ i ≤ 140737488355327) := fun h => by
              have h2 : smallB i = true := by simp [smallB, h]
              rw [hs] at h2; cases h2
            omega
          exact vn_intHigh i hi.1 hi.2 hs s2 m hm w
      · exact vn_int i hi.1 hi.2 hs m hm w
    · exact vn_float bi hbi.1 hbi.2 m hm w
    · by_cases hs : t.size ≤ 5
      · exact vn_text t hs m hm w
      · exact vn_textBig t hs (by omega) m hm w
  · have cp := lplain_no kd i bi re t hp (w.alloc (.cells #[.int .i64 kd, .int .i64 i, .int .u64 bi, .string t, .int .u64 re] 40))
    go_enter Try.func6, Try.ntmps6
    go_wp2_with (go_at_call 18; (with_reducible refine cp.mono ?_); rintro e w2 ⟨rfl, hB2⟩; clear cp; (obtain ⟨n2, hBx⟩ := vb.out w2 hB2); (have p3 := n2 3); (simp only [List.getElem?_toArray, List.getElem?_cons_succ, List.getElem?_cons_zero] at p3))
    go_ret
    exact ⟨rfl, hBx⟩
end Go.Proofs.Ytaebnnkhjlidiab.W
