import Derived.Test.YthgcdohndchdkaaGreatDoorBase35
/- OpsMixed: the walk. -/
namespace Go.Proofs.YthgcdohndchdkaaGreatDoor.W.Nu
open Go.ChangeShapes Go.WideShapes Go.RowKit Go.Shelf
set_option linter.unusedVariables false
set_option maxRecDepth 100000 in
set_option maxHeartbeats 4000000 in
theorem mixed_core (i bits : Int) (hi0 : -9223372036854775808 ≤ i) (hi1 : i ≤ 9223372036854775807) (hb0 : 0 ≤ bits) (hb1 : bits < 18446744073709551616) (L0 L1 L2 L3 L4 L5 nan : Bool) (hn : Go.Proofs.YthgcdohndchdkaaGreatDoor.W.nanB bits = nan)
    (hF : Hid ((nan = true ∧ L0 = false ∧ L1 = false ∧ L2 = false ∧ L3 = false ∧ L4 = false ∧ L5 = true) ∨ (nan = false ∧ ((L0 = true ∧ L1 = true ∧ L2 = false ∧ L3 = false ∧ L4 = false ∧ L5 = true) ∨ (L0 = false ∧ L1 = true ∧ L2 = false ∧ L3 = true ∧ L4 = true ∧ L5 = false) ∨ (L0 = false ∧ L1 = false ∧ L2 = true ∧ L3 = true ∧ L4 = false ∧ L5 = true)))))
    (hA : Hid (lessN true i 0 false 0 (Go.Proofs.YthgcdohndchdkaaGreatDoor.W.fltW bits) = L0 ∧ lessEqN true i 0 false 0 (Go.Proofs.YthgcdohndchdkaaGreatDoor.W.fltW bits) = L1 ∧ lessN false 0 (Go.Proofs.YthgcdohndchdkaaGreatDoor.W.fltW bits) true i 0 = L2 ∧ lessEqN false 0 (Go.Proofs.YthgcdohndchdkaaGreatDoor.W.fltW bits) true i 0 = L3 ∧ equalN true i 0 false 0 (Go.Proofs.YthgcdohndchdkaaGreatDoor.W.fltW bits) = L4 ∧ equalN false 0 (Go.Proofs.YthgcdohndchdkaaGreatDoor.W.fltW bits) true i 0 = L4 ∧ L5 = !L4)) (W : World) : Calls Tryz.prog 4 #[.int .i64 i, .int .u64 bits] W fun e w' => e = .returned (.bool true) ∧ Below W.heap.size W w' := by
  have cn := hf_new (Below.refl W.heap.size W) 10 (by decide)
  rw [show ((10 : Nat) : Int) = 10 from rfl] at cn
  have HI := hid (And.intro hi0 hi1)
  have HB := hid (And.intro hb0 hb1)
  have cNaN := fun w => Go.Proofs.YthgcdohndchdkaaGreatDoor.W.refNaN_c bits hb0 hb1 w
  rw [hn] at cNaN
  obtain ⟨A0, A1, A2, A3, A4, A5, A6⟩ := hA.out
  have AA := hid (And.intro A0 (And.intro A1 (And.intro A2 (And.intro A3 (And.intro A4 (And.intro A5 A6))))))
  have E4 : (L4 == true) = L4 := by cases L4 <;> rfl
  have E5 : (L4 == false) = L5 := by rw [A6]; cases L4 <;> rfl
  have EE := hid (And.intro E4 E5)
  clear A0 A1 A2 A3 A4 A5 A6 E4 E5
  have hq := hid (fun b : Bool => (show (boolW b == 18444492273895866370) = b by cases b <;> decide))
  have cC := hid (fun (b : Bool) (w : World) => ((refClass_c (boolW b) (by cases b <;> decide) (by cases b <;> decide) w).mono (fun e w' h => (⟨h.1.trans (by rw [show Go.Proofs.YthgcdohndchdkaaGreatDoor.W.cls (boolW b) = 4 from by cases b <;> decide]), by obtain ⟨k, hk⟩ := h.2; rw [hk]; exact below_drewN w k⟩ : e = .returned (.int .i64 4) ∧ Below w.heap.size w w'))))
  clear hi0 hi1 hb0 hb1 hn
  go_enter Tryz.func4, Tryz.ntmps4
  go_upto_region 4 with (go_at_call 7; (with_reducible refine cn.mono ?_); rintro e W1 ⟨hb, rfl, q1, hB1⟩; clear cn)
  have c1 := boxI q1 (.slice none 0 0) [] (words_nil' W1) i HI.out.1 HI.out.2 (by decide) (by decide)
  go_upto_region 5 with (go_at_call 8; (with_reducible refine c1.mono ?_); rintro e W2 ⟨x, H2, rfl, q2, hE2, hI2, hs2, hl2, hA2, hx2, hU2⟩; clear c1)
  have c2 := boxF q2 (.slice none 0 0) bits HB.out.1 HB.out.2
  have hx := hid (show IsNum H2 x true i 0 from .inl ⟨rfl, rfl, hI2, HI.out.1, by have := HI.out.2; omega⟩)
  clear q1 hE2 hs2 hl2 hA2 hU2 hB1 q2 hI2 hx2
  go_upto_region 6 with (go_at_call 8; (with_reducible refine c2.mono ?_); rintro e W3 ⟨y, H3, rfl, q3, hE3, hI3, hs3, hl3, hA3, hy3, hU3⟩; (replace hx := hid (hx.out.ext hE3)); (have hy := hid (flt_num (H := H3) hI3 hy3)); clear c2 hE3 hI3 hs3 hl3 hA3 hy3 hU3)
  go_upto_region 9 with (go_at_call 14; (with_reducible refine (refFromBool_c _ _).mono ?_); (rw [show boolW true = 18444492273895866370 from by decide]); rintro e w' ⟨rfl, hw⟩; (have hw' := hw.symm); subst hw'; clear hw)
  have Q := hid q3
  clear q3
  go_upto_region 11 with fail
  have q4 := Q.out
  obtain ⟨K05, q5, ks0, kk⟩ := hf_aside q4 (.cells #[.string ⟨#[60]⟩, .string ⟨#[60, 61]⟩, .string ⟨#[62]⟩, .string ⟨#[62, 61]⟩, .string ⟨#[61, 61]⟩, .string ⟨#[33, 61]⟩] 9)
  have e5 := World.cell?_alloc_new W3 #[.string ⟨#[60]⟩, .string ⟨#[60, 61]⟩, .string ⟨#[62]⟩, .string ⟨#[62, 61]⟩, .string ⟨#[61, 61]⟩, .string ⟨#[33, 61]⟩] 9
  have s0 : (W3.alloc (.cells #[.string ⟨#[60]⟩, .string ⟨#[60, 61]⟩, .string ⟨#[62]⟩, .string ⟨#[62, 61]⟩, .string ⟨#[61, 61]⟩, .string ⟨#[33, 61]⟩] 9)).cell? ⟨W3.heap.size, 0, none⟩ = some (.string ⟨#[60]⟩) := e5 0
  have s1 : (W3.alloc (.cells #[.string ⟨#[60]⟩, .string ⟨#[60, 61]⟩, .string ⟨#[62]⟩, .string ⟨#[62, 61]⟩, .string ⟨#[61, 61]⟩, .string ⟨#[33, 61]⟩] 9)).cell? ⟨W3.heap.size, 1, none⟩ = some (.string ⟨#[60, 61]⟩) := e5 1
  have s2 : (W3.alloc (.cells #[.string ⟨#[60]⟩, .string ⟨#[60, 61]⟩, .string ⟨#[62]⟩, .string ⟨#[62, 61]⟩, .string ⟨#[61, 61]⟩, .string ⟨#[33, 61]⟩] 9)).cell? ⟨W3.heap.size, 2, none⟩ = some (.string ⟨#[62]⟩) := e5 2
  have s3 : (W3.alloc (.cells #[.string ⟨#[60]⟩, .string ⟨#[60, 61]⟩, .string ⟨#[62]⟩, .string ⟨#[62, 61]⟩, .string ⟨#[61, 61]⟩, .string ⟨#[33, 61]⟩] 9)).cell? ⟨W3.heap.size, 3, none⟩ = some (.string ⟨#[62, 61]⟩) := e5 3
  have s4 : (W3.alloc (.cells #[.string ⟨#[60]⟩, .string ⟨#[60, 61]⟩, .string ⟨#[62]⟩, .string ⟨#[62, 61]⟩, .string ⟨#[61, 61]⟩, .string ⟨#[33, 61]⟩] 9)).cell? ⟨W3.heap.size, 4, none⟩ = some (.string ⟨#[61, 61]⟩) := e5 4
  have s5 : (W3.alloc (.cells #[.string ⟨#[60]⟩, .string ⟨#[60, 61]⟩, .string ⟨#[62]⟩, .string ⟨#[62, 61]⟩, .string ⟨#[61, 61]⟩, .string ⟨#[33, 61]⟩] 9)).cell? ⟨W3.heap.size, 5, none⟩ = some (.string ⟨#[33, 61]⟩) := e5 5
  have hB5 : Below W3.heap.size W3 (W3.alloc (.cells #[.string ⟨#[60]⟩, .string ⟨#[60, 61]⟩, .string ⟨#[62]⟩, .string ⟨#[62, 61]⟩, .string ⟨#[61, 61]⟩, .string ⟨#[33, 61]⟩] 9)) := (Below.refl _ W3).alloc (Nat.le_refl _) _
  have hz : (W3.alloc (.cells #[.string ⟨#[60]⟩, .string ⟨#[60, 61]⟩, .string ⟨#[62]⟩, .string ⟨#[62, 61]⟩, .string ⟨#[61, 61]⟩, .string ⟨#[33, 61]⟩] 9)).heap.size = W3.heap.size + 1 := World.size_alloc ..
  have hq5 := q5.1.size
  have o := mineB_nil (W3.alloc (.cells #[.string ⟨#[60]⟩, .string ⟨#[60, 61]⟩, .string ⟨#[62]⟩, .string ⟨#[62, 61]⟩, .string ⟨#[61, 61]⟩, .string ⟨#[33, 61]⟩] 9)).heap.size (W3.alloc (.cells #[.string ⟨#[60]⟩, .string ⟨#[60, 61]⟩, .string ⟨#[62]⟩, .string ⟨#[62, 61]⟩, .string ⟨#[61, 61]⟩, .string ⟨#[33, 61]⟩] 9)) K05
  obtain ⟨B0, hBe⟩ : ∃ B, B = (W3.alloc (.cells #[.string ⟨#[60]⟩, .string ⟨#[60, 61]⟩, .string ⟨#[62]⟩, .string ⟨#[62, 61]⟩, .string ⟨#[61, 61]⟩, .string ⟨#[33, 61]⟩] 9)).heap.size := ⟨_, rfl⟩
  rw [← hBe] at o
  have BF0 := hid (show W.heap.size ≤ B0 ∧ W3.heap.size < B0 from ⟨by omega, by omega⟩)
  have zb := hid (show B0 ≤ (W3.alloc (.cells #[.string ⟨#[60]⟩, .string ⟨#[60, 61]⟩, .string ⟨#[62]⟩, .string ⟨#[62, 61]⟩, .string ⟨#[61, 61]⟩, .string ⟨#[33, 61]⟩] 9)).heap.size by omega)
  replace Q := hid q5
  clear e5 hB5 q4 kk hz hq5 hBe q5
  generalize W3.heap.size = sb0 at *
  generalize W3.alloc (.cells #[.string ⟨#[60]⟩, .string ⟨#[60, 61]⟩, .string ⟨#[62]⟩, .string ⟨#[62, 61]⟩, .string ⟨#[61, 61]⟩, .string ⟨#[33, 61]⟩] 9) = V0 at *
  have O := hid o
  clear o
  go_wp2
  refine wp_loop_rounds 7 ?_
  rw [rounds_succ]
  have cb := bin_lt Q.out x y true false i 0 0 (Go.Proofs.YthgcdohndchdkaaGreatDoor.W.fltW bits) hx.out hy.out (.slice none 0 0) [] (words_nil' _) (by decide)
  rw [AA.out.1] at cb
  have hq0 := hq.out L0
  go_upto_region 14 with (go_at_call 9; (with_reducible refine cb.mono ?_); rintro e Wa ⟨rfl, hBa⟩; clear cb)
  replace s0 := cell_keep hBa s0
  replace s1 := cell_keep hBa s1
  replace s2 := cell_keep hBa s2
  replace s3 := cell_keep hBa s3
  replace s4 := cell_keep hBa s4
  replace s5 := cell_keep hBa s5
  replace Q := hid (Q.out.below' hBa)
  replace O := hid (O.out.below hBa)
  replace zb := hid (Nat.le_trans zb.out hBa.size)
  clear hBa
  have cK := cC.out L0 Wa
  go_upto_region 16 with (go_at_call 12; (with_reducible refine cK.mono ?_); rintro e Wb ⟨rfl, hBb⟩; clear cK)
  replace s0 := cell_keep hBb s0
  replace s1 := cell_keep hBb s1
  replace s2 := cell_keep hBb s2
  replace s3 := cell_keep hBb s3
  replace s4 := cell_keep hBb s4
  replace s5 := cell_keep hBb s5
  replace Q := hid (Q.out.below' hBb)
  replace O := hid (O.out.below hBb)
  replace zb := hid (Nat.le_trans zb.out hBb.size)
  clear hBb
  obtain ⟨v01, Wd, Kd, hrun, kk, qd, od, far, zd⟩ := mineB_app Q.out B0 BF0.out.1 zb.out 39 _ _ O.out L0 (by simp)
  replace s0 := far _ _ _ BF0.out.2 s0
  replace s1 := far _ _ _ BF0.out.2 s1
  replace s2 := far _ _ _ BF0.out.2 s2
  replace s3 := far _ _ _ BF0.out.2 s3
  replace s4 := far _ _ _ BF0.out.2 s4
  replace s5 := far _ _ _ BF0.out.2 s5
  replace Q := hid qd
  replace O := hid od
  replace zb := hid (Nat.le_trans zb.out zd)
  clear kk qd od far zd
  go_wp2_with (at_builtin; refine Lib.wpList_append_run _ rfl (.tmp 75) (.tmp 79) 39 39 rfl _ _ (by simp [Act.eval]) (by simp [Act.eval]) _ _ hrun ?_)
  clear hrun hq0
  rw [rounds_succ]
  have cb := bin_le Q.out x y true false i 0 0 (Go.Proofs.YthgcdohndchdkaaGreatDoor.W.fltW bits) hx.out hy.out (.slice none 0 0) [] (words_nil' _) (by decide)
  rw [AA.out.2.1] at cb
  have hq1 := hq.out L1
  go_upto_region 14 with (go_at_call 9; (with_reducible refine cb.mono ?_); rintro e Wa ⟨rfl, hBa⟩; clear cb)
  replace s0 := cell_keep hBa s0
  replace s1 := cell_keep hBa s1
  replace s2 := cell_keep hBa s2
  replace s3 := cell_keep hBa s3
  replace s4 := cell_keep hBa s4
  replace s5 := cell_keep hBa s5
  replace Q := hid (Q.out.below' hBa)
  replace O := hid (O.out.below hBa)
  replace zb := hid (Nat.le_trans zb.out hBa.size)
  clear hBa
  have cK := cC.out L1 Wa
  go_upto_region 16 with (go_at_call 12; (with_reducible refine cK.mono ?_); rintro e Wb ⟨rfl, hBb⟩; clear cK)
  replace s0 := cell_keep hBb s0
  replace s1 := cell_keep hBb s1
  replace s2 := cell_keep hBb s2
  replace s3 := cell_keep hBb s3
  replace s4 := cell_keep hBb s4
  replace s5 := cell_keep hBb s5
  replace Q := hid (Q.out.below' hBb)
  replace O := hid (O.out.below hBb)
  replace zb := hid (Nat.le_trans zb.out hBb.size)
  clear hBb
  obtain ⟨v02, Wd, Kd, hrun, kk, qd, od, far, zd⟩ := mineB_app Q.out B0 BF0.out.1 zb.out 39 _ _ O.out L1 (by simp)
  replace s0 := far _ _ _ BF0.out.2 s0
  replace s1 := far _ _ _ BF0.out.2 s1
  replace s2 := far _ _ _ BF0.out.2 s2
  replace s3 := far _ _ _ BF0.out.2 s3
  replace s4 := far _ _ _ BF0.out.2 s4
  replace s5 := far _ _ _ BF0.out.2 s5
  replace Q := hid qd
  replace O := hid od
  replace zb := hid (Nat.le_trans zb.out zd)
  clear kk qd od far zd
  go_wp2_with (at_builtin; refine Lib.wpList_append_run _ rfl (.tmp 75) (.tmp 79) 39 39 rfl _ _ (by simp [Act.eval]) (by simp [Act.eval]) _ _ hrun ?_)
  clear hrun hq1
  rw [rounds_succ]
  have cb := bin_gt Q.out x y true false i 0 0 (Go.Proofs.YthgcdohndchdkaaGreatDoor.W.fltW bits) hx.out hy.out (.slice none 0 0) [] (words_nil' _) (by decide)
  rw [AA.out.2.2.1] at cb
  have hq2 := hq.out L2
  go_upto_region 14 with (go_at_call 9; (with_reducible refine cb.mono ?_); rintro e Wa ⟨rfl, hBa⟩; clear cb)
  replace s0 := cell_keep hBa s0
  replace s1 := cell_keep hBa s1
  replace s2 := cell_keep hBa s2
  replace s3 := cell_keep hBa s3
  replace s4 := cell_keep hBa s4
  replace s5 := cell_keep hBa s5
  replace Q := hid (Q.out.below' hBa)
  replace O := hid (O.out.below hBa)
  replace zb := hid (Nat.le_trans zb.out hBa.size)
  clear hBa
  have cK := cC.out L2 Wa
  go_upto_region 16 with (go_at_call 12; (with_reducible refine cK.mono ?_); rintro e Wb ⟨rfl, hBb⟩; clear cK)
  replace s0 := cell_keep hBb s0
  replace s1 := cell_keep hBb s1
  replace s2 := cell_keep hBb s2
  replace s3 := cell_keep hBb s3
  replace s4 := cell_keep hBb s4
  replace s5 := cell_keep hBb s5
  replace Q := hid (Q.out.below' hBb)
  replace O := hid (O.out.below hBb)
  replace zb := hid (Nat.le_trans zb.out hBb.size)
  clear hBb
  obtain ⟨v03, Wd, Kd, hrun, kk, qd, od, far, zd⟩ := mineB_app Q.out B0 BF0.out.1 zb.out 39 _ _ O.out L2 (by simp)
  replace s0 := far _ _ _ BF0.out.2 s0
  replace s1 := far _ _ _ BF0.out.2 s1
  replace s2 := far _ _ _ BF0.out.2 s2
  replace s3 := far _ _ _ BF0.out.2 s3
  replace s4 := far _ _ _ BF0.out.2 s4
  replace s5 := far _ _ _ BF0.out.2 s5
  replace Q := hid qd
  replace O := hid od
  replace zb := hid (Nat.le_trans zb.out zd)
  clear kk qd od far zd
  go_wp2_with (at_builtin; refine Lib.wpList_append_run _ rfl (.tmp 75) (.tmp 79) 39 39 rfl _ _ (by simp [Act.eval]) (by simp [Act.eval]) _ _ hrun ?_)
  clear hrun hq2
  rw [rounds_succ]
  have cb := bin_ge Q.out x y true false i 0 0 (Go.Proofs.YthgcdohndchdkaaGreatDoor.W.fltW bits) hx.out hy.out (.slice none 0 0) [] (words_nil' _) (by decide)
  rw [AA.out.2.2.2.1] at cb
  have hq3 := hq.out L3
  go_upto_region 14 with (go_at_call 9; (with_reducible refine cb.mono ?_); rintro e Wa ⟨rfl, hBa⟩; clear cb)
  replace s0 := cell_keep hBa s0
  replace s1 := cell_keep hBa s1
  replace s2 := cell_keep hBa s2
  replace s3 := cell_keep hBa s3
  replace s4 := cell_keep hBa s4
  replace s5 := cell_keep hBa s5
  replace Q := hid (Q.out.below' hBa)
  replace O := hid (O.out.below hBa)
  replace zb := hid (Nat.le_trans zb.out hBa.size)
  clear hBa
  have cK := cC.out L3 Wa
  go_upto_region 16 with (go_at_call 12; (with_reducible refine cK.mono ?_); rintro e Wb ⟨rfl, hBb⟩; clear cK)
  replace s0 := cell_keep hBb s0
  replace s1 := cell_keep hBb s1
  replace s2 := cell_keep hBb s2
  replace s3 := cell_keep hBb s3
  replace s4 := cell_keep hBb s4
  replace s5 := cell_keep hBb s5
  replace Q := hid (Q.out.below' hBb)
  replace O := hid (O.out.below hBb)
  replace zb := hid (Nat.le_trans zb.out hBb.size)
  clear hBb
  obtain ⟨v04, Wd, Kd, hrun, kk, qd, od, far, zd⟩ := mineB_app Q.out B0 BF0.out.1 zb.out 39 _ _ O.out L3 (by simp)
  replace s0 := far _ _ _ BF0.out.2 s0
  replace s1 := far _ _ _ BF0.out.2 s1
  replace s2 := far _ _ _ BF0.out.2 s2
  replace s3 := far _ _ _ BF0.out.2 s3
  replace s4 := far _ _ _ BF0.out.2 s4
  replace s5 := far _ _ _ BF0.out.2 s5
  replace Q := hid qd
  replace O := hid od
  replace zb := hid (Nat.le_trans zb.out zd)
  clear kk qd od far zd
  go_wp2_with (at_builtin; refine Lib.wpList_append_run _ rfl (.tmp 75) (.tmp 79) 39 39 rfl _ _ (by simp [Act.eval]) (by simp [Act.eval]) _ _ hrun ?_)
  clear hrun hq3
  rw [rounds_succ]
  have cb := bin_eq Q.out x y true false i 0 0 (Go.Proofs.YthgcdohndchdkaaGreatDoor.W.fltW bits) hx.out hy.out (.slice none 0 0) [] (words_nil' _) (by decide)
  rw [AA.out.2.2.2.2.1, EE.out.1] at cb
  have hq4 := hq.out L4
  go_upto_region 14 with (go_at_call 9; (with_reducible refine cb.mono ?_); rintro e Wa ⟨rfl, hBa⟩; clear cb)
  replace s0 := cell_keep hBa s0
  replace s1 := cell_keep hBa s1
  replace s2 := cell_keep hBa s2
  replace s3 := cell_keep hBa s3
  replace s4 := cell_keep hBa s4
  replace s5 := cell_keep hBa s5
  replace Q := hid (Q.out.below' hBa)
  replace O := hid (O.out.below hBa)
  replace zb := hid (Nat.le_trans zb.out hBa.size)
  clear hBa
  have cK := cC.out L4 Wa
  go_upto_region 16 with (go_at_call 12; (with_reducible refine cK.mono ?_); rintro e Wb ⟨rfl, hBb⟩; clear cK)
  replace s0 := cell_keep hBb s0
  replace s1 := cell_keep hBb s1
  replace s2 := cell_keep hBb s2
  replace s3 := cell_keep hBb s3
  replace s4 := cell_keep hBb s4
  replace s5 := cell_keep hBb s5
  replace Q := hid (Q.out.below' hBb)
  replace O := hid (O.out.below hBb)
  replace zb := hid (Nat.le_trans zb.out hBb.size)
  clear hBb
  obtain ⟨v05, Wd, Kd, hrun, kk, qd, od, far, zd⟩ := mineB_app Q.out B0 BF0.out.1 zb.out 39 _ _ O.out L4 (by simp)
  replace s0 := far _ _ _ BF0.out.2 s0
  replace s1 := far _ _ _ BF0.out.2 s1
  replace s2 := far _ _ _ BF0.out.2 s2
  replace s3 := far _ _ _ BF0.out.2 s3
  replace s4 := far _ _ _ BF0.out.2 s4
  replace s5 := far _ _ _ BF0.out.2 s5
  replace Q := hid qd
  replace O := hid od
  replace zb := hid (Nat.le_trans zb.out zd)
  clear kk qd od far zd
  go_wp2_with (at_builtin; refine Lib.wpList_append_run _ rfl (.tmp 75) (.tmp 79) 39 39 rfl _ _ (by simp [Act.eval]) (by simp [Act.eval]) _ _ hrun ?_)
  clear hrun hq4
  rw [rounds_succ]
  have cb := bin_ne Q.out x y true false i 0 0 (Go.Proofs.YthgcdohndchdkaaGreatDoor.W.fltW bits) hx.out hy.out (.slice none 0 0) [] (words_nil' _) (by decide)
  rw [AA.out.2.2.2.2.1, EE.out.2] at cb
  have hq5 := hq.out L5
  go_upto_region 14 with (go_at_call 9; (with_reducible refine cb.mono ?_); rintro e Wa ⟨rfl, hBa⟩; clear cb)
  replace s0 := cell_keep hBa s0
  replace s1 := cell_keep hBa s1
  replace s2 := cell_keep hBa s2
  replace s3 := cell_keep hBa s3
  replace s4 := cell_keep hBa s4
  replace s5 := cell_keep hBa s5
  replace Q := hid (Q.out.below' hBa)
  replace O := hid (O.out.below hBa)
  replace zb := hid (Nat.le_trans zb.out hBa.size)
  clear hBa
  have cK := cC.out L5 Wa
  go_upto_region 16 with (go_at_call 12; (with_reducible refine cK.mono ?_); rintro e Wb ⟨rfl, hBb⟩; clear cK)
  replace s0 := cell_keep hBb s0
  replace s1 := cell_keep hBb s1
  replace s2 := cell_keep hBb s2
  replace s3 := cell_keep hBb s3
  replace s4 := cell_keep hBb s4
  replace s5 := cell_keep hBb s5
  replace Q := hid (Q.out.below' hBb)
  replace O := hid (O.out.below hBb)
  replace zb := hid (Nat.le_trans zb.out hBb.size)
  clear hBb
  obtain ⟨v06, Wd, Kd, hrun, kk, qd, od, far, zd⟩ := mineB_app Q.out B0 BF0.out.1 zb.out 39 _ _ O.out L5 (by simp)
  replace s0 := far _ _ _ BF0.out.2 s0
  replace s1 := far _ _ _ BF0.out.2 s1
  replace s2 := far _ _ _ BF0.out.2 s2
  replace s3 := far _ _ _ BF0.out.2 s3
  replace s4 := far _ _ _ BF0.out.2 s4
  replace s5 := far _ _ _ BF0.out.2 s5
  replace Q := hid qd
  replace O := hid od
  replace zb := hid (Nat.le_trans zb.out zd)
  clear kk qd od far zd
  go_wp2_with (at_builtin; refine Lib.wpList_append_run _ rfl (.tmp 75) (.tmp 79) 39 39 rfl _ _ (by simp [Act.eval]) (by simp [Act.eval]) _ _ hrun ?_)
  clear hrun hq5
  rw [rounds_succ]
  have hown : ∃ g cap, v06 = .slice (some ⟨g, 0, none⟩) 6 cap ∧ g < Wd.heap.size ∧ Wd.cell? ⟨g, 0, none⟩ = some (.bool L0) ∧ Wd.cell? ⟨g, 1, none⟩ = some (.bool L1) ∧ Wd.cell? ⟨g, 2, none⟩ = some (.bool L2) ∧ Wd.cell? ⟨g, 3, none⟩ = some (.bool L3) ∧ Wd.cell? ⟨g, 4, none⟩ = some (.bool L4) ∧ Wd.cell? ⟨g, 5, none⟩ = some (.bool L5) := by
    have o := O.out
    have hk := o.row.lt
    rcases id o.row.2 with ⟨_, h0⟩ | ⟨g, cap, cur, hv, _⟩
    · simp at h0
    · subst hv
      exact ⟨g, cap, rfl, (hk g rfl).2, o.row.cells (g := g) rfl 0 _ rfl, o.row.cells (g := g) rfl 1 _ rfl, o.row.cells (g := g) rfl 2 _ rfl, o.row.cells (g := g) rfl 3 _ rfl, o.row.cells (g := g) rfl 4 _ rfl, o.row.cells (g := g) rfl 5 _ rfl⟩
  obtain ⟨gl, gcap, hv2, hgl, g0, g1, g2, g3, g4, g5⟩ := hown
  subst hv2
  have GL := hid hgl
  clear s0 s1 s2 s3 s4 s5 O hgl zb ks0 BF0
  go_upto_region 19 with fail
  generalize hWz : Wd = Wz at *
  clear hWz
  go_upto_region 20 with fail
  have q4 := Q.out
  obtain ⟨K15, q5, ks1, kk⟩ := hf_aside q4 (.cells #[.string ⟨#[62]⟩, .string ⟨#[62, 61]⟩, .string ⟨#[60]⟩, .string ⟨#[60, 61]⟩, .string ⟨#[61, 61]⟩, .string ⟨#[33, 61]⟩] 9)
  have e5 := World.cell?_alloc_new Wz #[.string ⟨#[62]⟩, .string ⟨#[62, 61]⟩, .string ⟨#[60]⟩, .string ⟨#[60, 61]⟩, .string ⟨#[61, 61]⟩, .string ⟨#[33, 61]⟩] 9
  have s0 : (Wz.alloc (.cells #[.string ⟨#[62]⟩, .string ⟨#[62, 61]⟩, .string ⟨#[60]⟩, .string ⟨#[60, 61]⟩, .string ⟨#[61, 61]⟩, .string ⟨#[33, 61]⟩] 9)).cell? ⟨Wz.heap.size, 0, none⟩ = some (.string ⟨#[62]⟩) := e5 0
  have s1 : (Wz.alloc (.cells #[.string ⟨#[62]⟩, .string ⟨#[62, 61]⟩, .string ⟨#[60]⟩, .string ⟨#[60, 61]⟩, .string ⟨#[61, 61]⟩, .string ⟨#[33, 61]⟩] 9)).cell? ⟨Wz.heap.size, 1, none⟩ = some (.string ⟨#[62, 61]⟩) := e5 1
  have s2 : (Wz.alloc (.cells #[.string ⟨#[62]⟩, .string ⟨#[62, 61]⟩, .string ⟨#[60]⟩, .string ⟨#[60, 61]⟩, .string ⟨#[61, 61]⟩, .string ⟨#[33, 61]⟩] 9)).cell? ⟨Wz.heap.size, 2, none⟩ = some (.string ⟨#[60]⟩) := e5 2
  have s3 : (Wz.alloc (.cells #[.string ⟨#[62]⟩, .string ⟨#[62, 61]⟩, .string ⟨#[60]⟩, .string ⟨#[60, 61]⟩, .string ⟨#[61, 61]⟩, .string ⟨#[33, 61]⟩] 9)).cell? ⟨Wz.heap.size, 3, none⟩ = some (.string ⟨#[60, 61]⟩) := e5 3
  have s4 : (Wz.alloc (.cells #[.string ⟨#[62]⟩, .string ⟨#[62, 61]⟩, .string ⟨#[60]⟩, .string ⟨#[60, 61]⟩, .string ⟨#[61, 61]⟩, .string ⟨#[33, 61]⟩] 9)).cell? ⟨Wz.heap.size, 4, none⟩ = some (.string ⟨#[61, 61]⟩) := e5 4
  have s5 : (Wz.alloc (.cells #[.string ⟨#[62]⟩, .string ⟨#[62, 61]⟩, .string ⟨#[60]⟩, .string ⟨#[60, 61]⟩, .string ⟨#[61, 61]⟩, .string ⟨#[33, 61]⟩] 9)).cell? ⟨Wz.heap.size, 5, none⟩ = some (.string ⟨#[33, 61]⟩) := e5 5
  have hB5 : Below Wz.heap.size Wz (Wz.alloc (.cells #[.string ⟨#[62]⟩, .string ⟨#[62, 61]⟩, .string ⟨#[60]⟩, .string ⟨#[60, 61]⟩, .string ⟨#[61, 61]⟩, .string ⟨#[33, 61]⟩] 9)) := (Below.refl _ Wz).alloc (Nat.le_refl _) _
  replace g0 := cell_keep hB5 g0
  replace g1 := cell_keep hB5 g1
  replace g2 := cell_keep hB5 g2
  replace g3 := cell_keep hB5 g3
  replace g4 := cell_keep hB5 g4
  replace g5 := cell_keep hB5 g5
  have hz : (Wz.alloc (.cells #[.string ⟨#[62]⟩, .string ⟨#[62, 61]⟩, .string ⟨#[60]⟩, .string ⟨#[60, 61]⟩, .string ⟨#[61, 61]⟩, .string ⟨#[33, 61]⟩] 9)).heap.size = Wz.heap.size + 1 := World.size_alloc ..
  have hq5 := q5.1.size
  have o := mineB_nil (Wz.alloc (.cells #[.string ⟨#[62]⟩, .string ⟨#[62, 61]⟩, .string ⟨#[60]⟩, .string ⟨#[60, 61]⟩, .string ⟨#[61, 61]⟩, .string ⟨#[33, 61]⟩] 9)).heap.size (Wz.alloc (.cells #[.string ⟨#[62]⟩, .string ⟨#[62, 61]⟩, .string ⟨#[60]⟩, .string ⟨#[60, 61]⟩, .string ⟨#[61, 61]⟩, .string ⟨#[33, 61]⟩] 9)) K15
  obtain ⟨B1, hBe⟩ : ∃ B, B = (Wz.alloc (.cells #[.string ⟨#[62]⟩, .string ⟨#[62, 61]⟩, .string ⟨#[60]⟩, .string ⟨#[60, 61]⟩, .string ⟨#[61, 61]⟩, .string ⟨#[33, 61]⟩] 9)).heap.size := ⟨_, rfl⟩
  rw [← hBe] at o
  have BF1 := hid (show W.heap.size ≤ B1 ∧ Wz.heap.size < B1 ∧ gl < B1 from ⟨by omega, by omega, by have := GL.out; omega⟩)
  have zb := hid (show B1 ≤ (Wz.alloc (.cells #[.string ⟨#[62]⟩, .string ⟨#[62, 61]⟩, .string ⟨#[60]⟩, .string ⟨#[60, 61]⟩, .string ⟨#[61, 61]⟩, .string ⟨#[33, 61]⟩] 9)).heap.size by omega)
  replace Q := hid q5
  clear e5 hB5 q4 kk hz hq5 hBe q5
  generalize Wz.heap.size = sb1 at *
  generalize Wz.alloc (.cells #[.string ⟨#[62]⟩, .string ⟨#[62, 61]⟩, .string ⟨#[60]⟩, .string ⟨#[60, 61]⟩, .string ⟨#[61, 61]⟩, .string ⟨#[33, 61]⟩] 9) = V1 at *
  have O := hid o
  clear o
  go_wp2
  refine wp_loop_rounds 7 ?_
  rw [rounds_succ]
  have cb := bin_gt Q.out y x false true 0 (Go.Proofs.YthgcdohndchdkaaGreatDoor.W.fltW bits) i 0 hy.out hx.out (.slice none 0 0) [] (words_nil' _) (by decide)
  rw [AA.out.1] at cb
  have hq0 := hq.out L0
  go_upto_region 23 with (go_at_call 9; (with_reducible refine cb.mono ?_); rintro e Wa ⟨rfl, hBa⟩; clear cb)
  replace s0 := cell_keep hBa s0
  replace s1 := cell_keep hBa s1
  replace s2 := cell_keep hBa s2
  replace s3 := cell_keep hBa s3
  replace s4 := cell_keep hBa s4
  replace s5 := cell_keep hBa s5
  replace g0 := cell_keep hBa g0
  replace g1 := cell_keep hBa g1
  replace g2 := cell_keep hBa g2
  replace g3 := cell_keep hBa g3
  replace g4 := cell_keep hBa g4
  replace g5 := cell_keep hBa g5
  replace Q := hid (Q.out.below' hBa)
  replace O := hid (O.out.below hBa)
  replace zb := hid (Nat.le_trans zb.out hBa.size)
  clear hBa
  go_upto_region 25 with fail
  obtain ⟨v11, Wd, Kd, hrun, kk, qd, od, far, zd⟩ := mineB_app Q.out B1 BF1.out.1 zb.out 39 _ _ O.out L0 (by simp)
  replace s0 := far _ _ _ BF1.out.2.1 s0
  replace s1 := far _ _ _ BF1.out.2.1 s1
  replace s2 := far _ _ _ BF1.out.2.1 s2
  replace s3 := far _ _ _ BF1.out.2.1 s3
  replace s4 := far _ _ _ BF1.out.2.1 s4
  replace s5 := far _ _ _ BF1.out.2.1 s5
  replace g0 := far _ _ _ BF1.out.2.2 g0
  replace g1 := far _ _ _ BF1.out.2.2 g1
  replace g2 := far _ _ _ BF1.out.2.2 g2
  replace g3 := far _ _ _ BF1.out.2.2 g3
  replace g4 := far _ _ _ BF1.out.2.2 g4
  replace g5 := far _ _ _ BF1.out.2.2 g5
  replace Q := hid qd
  replace O := hid od
  replace zb := hid (Nat.le_trans zb.out zd)
  clear kk qd od far zd
  go_wp2_with (at_builtin; refine Lib.wpList_append_run _ rfl (.tmp 98) (.tmp 102) 39 39 rfl _ _ (by simp [Act.eval]) (by simp [Act.eval]) _ _ hrun ?_)
  clear hrun hq0
  rw [rounds_succ]
  have cb := bin_ge Q.out y x false true 0 (Go.Proofs.YthgcdohndchdkaaGreatDoor.W.fltW bits) i 0 hy.out hx.out (.slice none 0 0) [] (words_nil' _) (by decide)
  rw [AA.out.2.1] at cb
  have hq1 := hq.out L1
  go_upto_region 23 with (go_at_call 9; (with_reducible refine cb.mono ?_); rintro e Wa ⟨rfl, hBa⟩; clear cb)
  replace s0 := cell_keep hBa s0
  replace s1 := cell_keep hBa s1
  replace s2 := cell_keep hBa s2
  replace s3 := cell_keep hBa s3
  replace s4 := cell_keep hBa s4
  replace s5 := cell_keep hBa s5
  replace g0 := cell_keep hBa g0
  replace g1 := cell_keep hBa g1
  replace g2 := cell_keep hBa g2
  replace g3 := cell_keep hBa g3
  replace g4 := cell_keep hBa g4
  replace g5 := cell_keep hBa g5
  replace Q := hid (Q.out.below' hBa)
  replace O := hid (O.out.below hBa)
  replace zb := hid (Nat.le_trans zb.out hBa.size)
  clear hBa
  go_upto_region 25 with fail
  obtain ⟨v12, Wd, Kd, hrun, kk, qd, od, far, zd⟩ := mineB_app Q.out B1 BF1.out.1 zb.out 39 _ _ O.out L1 (by simp)
  replace s0 := far _ _ _ BF1.out.2.1 s0
  replace s1 := far _ _ _ BF1.out.2.1 s1
  replace s2 := far _ _ _ BF1.out.2.1 s2
  replace s3 := far _ _ _ BF1.out.2.1 s3
  replace s4 := far _ _ _ BF1.out.2.1 s4
  replace s5 := far _ _ _ BF1.out.2.1 s5
  replace g0 := far _ _ _ BF1.out.2.2 g0
  replace g1 := far _ _ _ BF1.out.2.2 g1
  replace g2 := far _ _ _ BF1.out.2.2 g2
  replace g3 := far _ _ _ BF1.out.2.2 g3
  replace g4 := far _ _ _ BF1.out.2.2 g4
  replace g5 := far _ _ _ BF1.out.2.2 g5
  replace Q := hid qd
  replace O := hid od
  replace zb := hid (Nat.le_trans zb.out zd)
  clear kk qd od far zd
  go_wp2_with (at_builtin; refine Lib.wpList_append_run _ rfl (.tmp 98) (.tmp 102) 39 39 rfl _ _ (by simp [Act.eval]) (by simp [Act.eval]) _ _ hrun ?_)
  clear hrun hq1
  rw [rounds_succ]
  have cb := bin_lt Q.out y x false true 0 (Go.Proofs.YthgcdohndchdkaaGreatDoor.W.fltW bits) i 0 hy.out hx.out (.slice none 0 0) [] (words_nil' _) (by decide)
  rw [AA.out.2.2.1] at cb
  have hq2 := hq.out L2
  go_upto_region 23 with (go_at_call 9; (with_reducible refine cb.mono ?_); rintro e Wa ⟨rfl, hBa⟩; clear cb)
  replace s0 := cell_keep hBa s0
  replace s1 := cell_keep hBa s1
  replace s2 := cell_keep hBa s2
  replace s3 := cell_keep hBa s3
  replace s4 := cell_keep hBa s4
  replace s5 := cell_keep hBa s5
  replace g0 := cell_keep hBa g0
  replace g1 := cell_keep hBa g1
  replace g2 := cell_keep hBa g2
  replace g3 := cell_keep hBa g3
  replace g4 := cell_keep hBa g4
  replace g5 := cell_keep hBa g5
  replace Q := hid (Q.out.below' hBa)
  replace O := hid (O.out.below hBa)
  replace zb := hid (Nat.le_trans zb.out hBa.size)
  clear hBa
  go_upto_region 25 with fail
  obtain ⟨v13, Wd, Kd, hrun, kk, qd, od, far, zd⟩ := mineB_app Q.out B1 BF1.out.1 zb.out 39 _ _ O.out L2 (by simp)
  replace s0 := far _ _ _ BF1.out.2.1 s0
  replace s1 := far _ _ _ BF1.out.2.1 s1
  replace s2 := far _ _ _ BF1.out.2.1 s2
  replace s3 := far _ _ _ BF1.out.2.1 s3
  replace s4 := far _ _ _ BF1.out.2.1 s4
  replace s5 := far _ _ _ BF1.out.2.1 s5
  replace g0 := far _ _ _ BF1.out.2.2 g0
  replace g1 := far _ _ _ BF1.out.2.2 g1
  replace g2 := far _ _ _ BF1.out.2.2 g2
  replace g3 := far _ _ _ BF1.out.2.2 g3
  replace g4 := far _ _ _ BF1.out.2.2 g4
  replace g5 := far _ _ _ BF1.out.2.2 g5
  replace Q := hid qd
  replace O := hid od
  replace zb := hid (Nat.le_trans zb.out zd)
  clear kk qd od far zd
  go_wp2_with (at_builtin; refine Lib.wpList_append_run _ rfl (.tmp 98) (.tmp 102) 39 39 rfl _ _ (by simp [Act.eval]) (by simp [Act.eval]) _ _ hrun ?_)
  clear hrun hq2
  rw [rounds_succ]
  have cb := bin_le Q.out y x false true 0 (Go.Proofs.YthgcdohndchdkaaGreatDoor.W.fltW bits) i 0 hy.out hx.out (.slice none 0 0) [] (words_nil' _) (by decide)
  rw [AA.out.2.2.2.1] at cb
  have hq3 := hq.out L3
  go_upto_region 23 with (go_at_call 9; (with_reducible refine cb.mono ?_); rintro e Wa ⟨rfl, hBa⟩; clear cb)
  replace s0 := cell_keep hBa s0
  replace s1 := cell_keep hBa s1
  replace s2 := cell_keep hBa s2
  replace s3 := cell_keep hBa s3
  replace s4 := cell_keep hBa s4
  replace s5 := cell_keep hBa s5
  replace g0 := cell_keep hBa g0
  replace g1 := cell_keep hBa g1
  replace g2 := cell_keep hBa g2
  replace g3 := cell_keep hBa g3
  replace g4 := cell_keep hBa g4
  replace g5 := cell_keep hBa g5
  replace Q := hid (Q.out.below' hBa)
  replace O := hid (O.out.below hBa)
  replace zb := hid (Nat.le_trans zb.out hBa.size)
  clear hBa
  go_upto_region 25 with fail
  obtain ⟨v14, Wd, Kd, hrun, kk, qd, od, far, zd⟩ := mineB_app Q.out B1 BF1.out.1 zb.out 39 _ _ O.out L3 (by simp)
  replace s0 := far _ _ _ BF1.out.2.1 s0
  replace s1 := far _ _ _ BF1.out.2.1 s1
  replace s2 := far _ _ _ BF1.out.2.1 s2
  replace s3 := far _ _ _ BF1.out.2.1 s3
  replace s4 := far _ _ _ BF1.out.2.1 s4
  replace s5 := far _ _ _ BF1.out.2.1 s5
  replace g0 := far _ _ _ BF1.out.2.2 g0
  replace g1 := far _ _ _ BF1.out.2.2 g1
  replace g2 := far _ _ _ BF1.out.2.2 g2
  replace g3 := far _ _ _ BF1.out.2.2 g3
  replace g4 := far _ _ _ BF1.out.2.2 g4
  replace g5 := far _ _ _ BF1.out.2.2 g5
  replace Q := hid qd
  replace O := hid od
  replace zb := hid (Nat.le_trans zb.out zd)
  clear kk qd od far zd
  go_wp2_with (at_builtin; refine Lib.wpList_append_run _ rfl (.tmp 98) (.tmp 102) 39 39 rfl _ _ (by simp [Act.eval]) (by simp [Act.eval]) _ _ hrun ?_)
  clear hrun hq3
  rw [rounds_succ]
  have cb := bin_eq Q.out y x false true 0 (Go.Proofs.YthgcdohndchdkaaGreatDoor.W.fltW bits) i 0 hy.out hx.out (.slice none 0 0) [] (words_nil' _) (by decide)
  rw [AA.out.2.2.2.2.2.1, EE.out.1] at cb
  have hq4 := hq.out L4
  go_upto_region 23 with (go_at_call 9; (with_reducible refine cb.mono ?_); rintro e Wa ⟨rfl, hBa⟩; clear cb)
  replace s0 := cell_keep hBa s0
  replace s1 := cell_keep hBa s1
  replace s2 := cell_keep hBa s2
  replace s3 := cell_keep hBa s3
  replace s4 := cell_keep hBa s4
  replace s5 := cell_keep hBa s5
  replace g0 := cell_keep hBa g0
  replace g1 := cell_keep hBa g1
  replace g2 := cell_keep hBa g2
  replace g3 := cell_keep hBa g3
  replace g4 := cell_keep hBa g4
  replace g5 := cell_keep hBa g5
  replace Q := hid (Q.out.below' hBa)
  replace O := hid (O.out.below hBa)
  replace zb := hid (Nat.le_trans zb.out hBa.size)
  clear hBa
  go_upto_region 25 with fail
  obtain ⟨v15, Wd, Kd, hrun, kk, qd, od, far, zd⟩ := mineB_app Q.out B1 BF1.out.1 zb.out 39 _ _ O.out L4 (by simp)
  replace s0 := far _ _ _ BF1.out.2.1 s0
  replace s1 := far _ _ _ BF1.out.2.1 s1
  replace s2 := far _ _ _ BF1.out.2.1 s2
  replace s3 := far _ _ _ BF1.out.2.1 s3
  replace s4 := far _ _ _ BF1.out.2.1 s4
  replace s5 := far _ _ _ BF1.out.2.1 s5
  replace g0 := far _ _ _ BF1.out.2.2 g0
  replace g1 := far _ _ _ BF1.out.2.2 g1
  replace g2 := far _ _ _ BF1.out.2.2 g2
  replace g3 := far _ _ _ BF1.out.2.2 g3
  replace g4 := far _ _ _ BF1.out.2.2 g4
  replace g5 := far _ _ _ BF1.out.2.2 g5
  replace Q := hid qd
  replace O := hid od
  replace zb := hid (Nat.le_trans zb.out zd)
  clear kk qd od far zd
  go_wp2_with (at_builtin; refine Lib.wpList_append_run _ rfl (.tmp 98) (.tmp 102) 39 39 rfl _ _ (by simp [Act.eval]) (by simp [Act.eval]) _ _ hrun ?_)
  clear hrun hq4
  rw [rounds_succ]
  have cb := bin_ne Q.out y x false true 0 (Go.Proofs.YthgcdohndchdkaaGreatDoor.W.fltW bits) i 0 hy.out hx.out (.slice none 0 0) [] (words_nil' _) (by decide)
  rw [AA.out.2.2.2.2.2.1, EE.out.2] at cb
  have hq5 := hq.out L5
  go_upto_region 23 with (go_at_call 9; (with_reducible refine cb.mono ?_); rintro e Wa ⟨rfl, hBa⟩; clear cb)
  replace s0 := cell_keep hBa s0
  replace s1 := cell_keep hBa s1
  replace s2 := cell_keep hBa s2
  replace s3 := cell_keep hBa s3
  replace s4 := cell_keep hBa s4
  replace s5 := cell_keep hBa s5
  replace g0 := cell_keep hBa g0
  replace g1 := cell_keep hBa g1
  replace g2 := cell_keep hBa g2
  replace g3 := cell_keep hBa g3
  replace g4 := cell_keep hBa g4
  replace g5 := cell_keep hBa g5
  replace Q := hid (Q.out.below' hBa)
  replace O := hid (O.out.below hBa)
  replace zb := hid (Nat.le_trans zb.out hBa.size)
  clear hBa
  go_upto_region 25 with fail
  obtain ⟨v16, Wd, Kd, hrun, kk, qd, od, far, zd⟩ := mineB_app Q.out B1 BF1.out.1 zb.out 39 _ _ O.out L5 (by simp)
  replace s0 := far _ _ _ BF1.out.2.1 s0
  replace s1 := far _ _ _ BF1.out.2.1 s1
  replace s2 := far _ _ _ BF1.out.2.1 s2
  replace s3 := far _ _ _ BF1.out.2.1 s3
  replace s4 := far _ _ _ BF1.out.2.1 s4
  replace s5 := far _ _ _ BF1.out.2.1 s5
  replace g0 := far _ _ _ BF1.out.2.2 g0
  replace g1 := far _ _ _ BF1.out.2.2 g1
  replace g2 := far _ _ _ BF1.out.2.2 g2
  replace g3 := far _ _ _ BF1.out.2.2 g3
  replace g4 := far _ _ _ BF1.out.2.2 g4
  replace g5 := far _ _ _ BF1.out.2.2 g5
  replace Q := hid qd
  replace O := hid od
  replace zb := hid (Nat.le_trans zb.out zd)
  clear kk qd od far zd
  go_wp2_with (at_builtin; refine Lib.wpList_append_run _ rfl (.tmp 98) (.tmp 102) 39 39 rfl _ _ (by simp [Act.eval]) (by simp [Act.eval]) _ _ hrun ?_)
  clear hrun hq5
  rw [rounds_succ]
  have hown : ∃ g cap, v16 = .slice (some ⟨g, 0, none⟩) 6 cap ∧ g < Wd.heap.size ∧ Wd.cell? ⟨g, 0, none⟩ = some (.bool L0) ∧ Wd.cell? ⟨g, 1, none⟩ = some (.bool L1) ∧ Wd.cell? ⟨g, 2, none⟩ = some (.bool L2) ∧ Wd.cell? ⟨g, 3, none⟩ = some (.bool L3) ∧ Wd.cell? ⟨g, 4, none⟩ = some (.bool L4) ∧ Wd.cell? ⟨g, 5, none⟩ = some (.bool L5) := by
    have o := O.out
    have hk := o.row.lt
    rcases id o.row.2 with ⟨_, h0⟩ | ⟨g, cap, cur, hv, _⟩
    · simp at h0
    · subst hv
      exact ⟨g, cap, rfl, (hk g rfl).2, o.row.cells (g := g) rfl 0 _ rfl, o.row.cells (g := g) rfl 1 _ rfl, o.row.cells (g := g) rfl 2 _ rfl, o.row.cells (g := g) rfl 3 _ rfl, o.row.cells (g := g) rfl 4 _ rfl, o.row.cells (g := g) rfl 5 _ rfl⟩
  obtain ⟨ml, mcap, hv2, hgl, m0, m1, m2, m3, m4, m5⟩ := hown
  subst hv2
  clear s0 s1 s2 s3 s4 s5 O hgl zb ks1 BF1
  have HBw := hid Q.out.bel
  clear Q hx hy
  go_upto_region 28 with fail
  go_wp2
  refine wp_loop_rounds 7 ?_
  rw [rounds_succ]
  go_upto_region 30 with fail
  go_quiet (fail)
  generalize hWq : World.drewN _ _ = W0q
  replace g0 : W0q.cell? ⟨gl, 0, none⟩ = some (.bool L0) := by rw [← hWq]; exact g0
  replace m0 : W0q.cell? ⟨ml, 0, none⟩ = some (.bool L0) := by rw [← hWq]; exact m0
  replace g1 : W0q.cell? ⟨gl, 1, none⟩ = some (.bool L1) := by rw [← hWq]; exact g1
  replace m1 : W0q.cell? ⟨ml, 1, none⟩ = some (.bool L1) := by rw [← hWq]; exact m1
  replace g2 : W0q.cell? ⟨gl, 2, none⟩ = some (.bool L2) := by rw [← hWq]; exact g2
  replace m2 : W0q.cell? ⟨ml, 2, none⟩ = some (.bool L2) := by rw [← hWq]; exact m2
  replace g3 : W0q.cell? ⟨gl, 3, none⟩ = some (.bool L3) := by rw [← hWq]; exact g3
  replace m3 : W0q.cell? ⟨ml, 3, none⟩ = some (.bool L3) := by rw [← hWq]; exact m3
  replace g4 : W0q.cell? ⟨gl, 4, none⟩ = some (.bool L4) := by rw [← hWq]; exact g4
  replace m4 : W0q.cell? ⟨ml, 4, none⟩ = some (.bool L4) := by rw [← hWq]; exact m4
  replace g5 : W0q.cell? ⟨gl, 5, none⟩ = some (.bool L5) := by rw [← hWq]; exact g5
  replace m5 : W0q.cell? ⟨ml, 5, none⟩ = some (.bool L5) := by rw [← hWq]; exact m5
  replace HBw := hid (show Below W.heap.size W W0q by rw [← hWq]; exact HBw.out.trans ((below_drewN _ _).mono HBw.out.size))
  clear hWq
  go_wp2
  rw [rounds_succ]
  go_upto_region 30 with fail
  go_quiet (fail)
  generalize hWq : World.drewN _ _ = W1q
  replace g0 : W1q.cell? ⟨gl, 0, none⟩ = some (.bool L0) := by rw [← hWq]; exact g0
  replace m0 : W1q.cell? ⟨ml, 0, none⟩ = some (.bool L0) := by rw [← hWq]; exact m0
  replace g1 : W1q.cell? ⟨gl, 1, none⟩ = some (.bool L1) := by rw [← hWq]; exact g1
  replace m1 : W1q.cell? ⟨ml, 1, none⟩ = some (.bool L1) := by rw [← hWq]; exact m1
  replace g2 : W1q.cell? ⟨gl, 2, none⟩ = some (.bool L2) := by rw [← hWq]; exact g2
  replace m2 : W1q.cell? ⟨ml, 2, none⟩ = some (.bool L2) := by rw [← hWq]; exact m2
  replace g3 : W1q.cell? ⟨gl, 3, none⟩ = some (.bool L3) := by rw [← hWq]; exact g3
  replace m3 : W1q.cell? ⟨ml, 3, none⟩ = some (.bool L3) := by rw [← hWq]; exact m3
  replace g4 : W1q.cell? ⟨gl, 4, none⟩ = some (.bool L4) := by rw [← hWq]; exact g4
  replace m4 : W1q.cell? ⟨ml, 4, none⟩ = some (.bool L4) := by rw [← hWq]; exact m4
  replace g5 : W1q.cell? ⟨gl, 5, none⟩ = some (.bool L5) := by rw [← hWq]; exact g5
  replace m5 : W1q.cell? ⟨ml, 5, none⟩ = some (.bool L5) := by rw [← hWq]; exact m5
  replace HBw := hid (show Below W.heap.size W W1q by rw [← hWq]; exact HBw.out.trans ((below_drewN _ _).mono HBw.out.size))
  clear hWq
  go_wp2
  rw [rounds_succ]
  go_upto_region 30 with fail
  go_quiet (fail)
  generalize hWq : World.drewN _ _ = W2q
  replace g0 : W2q.cell? ⟨gl, 0, none⟩ = some (.bool L0) := by rw [← hWq]; exact g0
  replace m0 : W2q.cell? ⟨ml, 0, none⟩ = some (.bool L0) := by rw [← hWq]; exact m0
  replace g1 : W2q.cell? ⟨gl, 1, none⟩ = some (.bool L1) := by rw [← hWq]; exact g1
  replace m1 : W2q.cell? ⟨ml, 1, none⟩ = some (.bool L1) := by rw [← hWq]; exact m1
  replace g2 : W2q.cell? ⟨gl, 2, none⟩ = some (.bool L2) := by rw [← hWq]; exact g2
  replace m2 : W2q.cell? ⟨ml, 2, none⟩ = some (.bool L2) := by rw [← hWq]; exact m2
  replace g3 : W2q.cell? ⟨gl, 3, none⟩ = some (.bool L3) := by rw [← hWq]; exact g3
  replace m3 : W2q.cell? ⟨ml, 3, none⟩ = some (.bool L3) := by rw [← hWq]; exact m3
  replace g4 : W2q.cell? ⟨gl, 4, none⟩ = some (.bool L4) := by rw [← hWq]; exact g4
  replace m4 : W2q.cell? ⟨ml, 4, none⟩ = some (.bool L4) := by rw [← hWq]; exact m4
  replace g5 : W2q.cell? ⟨gl, 5, none⟩ = some (.bool L5) := by rw [← hWq]; exact g5
  replace m5 : W2q.cell? ⟨ml, 5, none⟩ = some (.bool L5) := by rw [← hWq]; exact m5
  replace HBw := hid (show Below W.heap.size W W2q by rw [← hWq]; exact HBw.out.trans ((below_drewN _ _).mono HBw.out.size))
  clear hWq
  go_wp2
  rw [rounds_succ]
  go_upto_region 30 with fail
  go_quiet (fail)
  generalize hWq : World.drewN _ _ = W3q
  replace g0 : W3q.cell? ⟨gl, 0, none⟩ = some (.bool L0) := by rw [← hWq]; exact g0
  replace m0 : W3q.cell? ⟨ml, 0, none⟩ = some (.bool L0) := by rw [← hWq]; exact m0
  replace g1 : W3q.cell? ⟨gl, 1, none⟩ = some (.bool L1) := by rw [← hWq]; exact g1
  replace m1 : W3q.cell? ⟨ml, 1, none⟩ = some (.bool L1) := by rw [← hWq]; exact m1
  replace g2 : W3q.cell? ⟨gl, 2, none⟩ = some (.bool L2) := by rw [← hWq]; exact g2
  replace m2 : W3q.cell? ⟨ml, 2, none⟩ = some (.bool L2) := by rw [← hWq]; exact m2
  replace g3 : W3q.cell? ⟨gl, 3, none⟩ = some (.bool L3) := by rw [← hWq]; exact g3
  replace m3 : W3q.cell? ⟨ml, 3, none⟩ = some (.bool L3) := by rw [← hWq]; exact m3
  replace g4 : W3q.cell? ⟨gl, 4, none⟩ = some (.bool L4) := by rw [← hWq]; exact g4
  replace m4 : W3q.cell? ⟨ml, 4, none⟩ = some (.bool L4) := by rw [← hWq]; exact m4
  replace g5 : W3q.cell? ⟨gl, 5, none⟩ = some (.bool L5) := by rw [← hWq]; exact g5
  replace m5 : W3q.cell? ⟨ml, 5, none⟩ = some (.bool L5) := by rw [← hWq]; exact m5
  replace HBw := hid (show Below W.heap.size W W3q by rw [← hWq]; exact HBw.out.trans ((below_drewN _ _).mono HBw.out.size))
  clear hWq
  go_wp2
  rw [rounds_succ]
  go_upto_region 30 with fail
  go_quiet (fail)
  generalize hWq : World.drewN _ _ = W4q
  replace g0 : W4q.cell? ⟨gl, 0, none⟩ = some (.bool L0) := by rw [← hWq]; exact g0
  replace m0 : W4q.cell? ⟨ml, 0, none⟩ = some (.bool L0) := by rw [← hWq]; exact m0
  replace g1 : W4q.cell? ⟨gl, 1, none⟩ = some (.bool L1) := by rw [← hWq]; exact g1
  replace m1 : W4q.cell? ⟨ml, 1, none⟩ = some (.bool L1) := by rw [← hWq]; exact m1
  replace g2 : W4q.cell? ⟨gl, 2, none⟩ = some (.bool L2) := by rw [← hWq]; exact g2
  replace m2 : W4q.cell? ⟨ml, 2, none⟩ = some (.bool L2) := by rw [← hWq]; exact m2
  replace g3 : W4q.cell? ⟨gl, 3, none⟩ = some (.bool L3) := by rw [← hWq]; exact g3
  replace m3 : W4q.cell? ⟨ml, 3, none⟩ = some (.bool L3) := by rw [← hWq]; exact m3
  replace g4 : W4q.cell? ⟨gl, 4, none⟩ = some (.bool L4) := by rw [← hWq]; exact g4
  replace m4 : W4q.cell? ⟨ml, 4, none⟩ = some (.bool L4) := by rw [← hWq]; exact m4
  replace g5 : W4q.cell? ⟨gl, 5, none⟩ = some (.bool L5) := by rw [← hWq]; exact g5
  replace m5 : W4q.cell? ⟨ml, 5, none⟩ = some (.bool L5) := by rw [← hWq]; exact m5
  replace HBw := hid (show Below W.heap.size W W4q by rw [← hWq]; exact HBw.out.trans ((below_drewN _ _).mono HBw.out.size))
  clear hWq
  go_wp2
  rw [rounds_succ]
  go_upto_region 30 with fail
  go_quiet (fail)
  generalize hWq : World.drewN _ _ = W5q
  replace g0 : W5q.cell? ⟨gl, 0, none⟩ = some (.bool L0) := by rw [← hWq]; exact g0
  replace m0 : W5q.cell? ⟨ml, 0, none⟩ = some (.bool L0) := by rw [← hWq]; exact m0
  replace g1 : W5q.cell? ⟨gl, 1, none⟩ = some (.bool L1) := by rw [← hWq]; exact g1
  replace m1 : W5q.cell? ⟨ml, 1, none⟩ = some (.bool L1) := by rw [← hWq]; exact m1
  replace g2 : W5q.cell? ⟨gl, 2, none⟩ = some (.bool L2) := by rw [← hWq]; exact g2
  replace m2 : W5q.cell? ⟨ml, 2, none⟩ = some (.bool L2) := by rw [← hWq]; exact m2
  replace g3 : W5q.cell? ⟨gl, 3, none⟩ = some (.bool L3) := by rw [← hWq]; exact g3
  replace m3 : W5q.cell? ⟨ml, 3, none⟩ = some (.bool L3) := by rw [← hWq]; exact m3
  replace g4 : W5q.cell? ⟨gl, 4, none⟩ = some (.bool L4) := by rw [← hWq]; exact g4
  replace m4 : W5q.cell? ⟨ml, 4, none⟩ = some (.bool L4) := by rw [← hWq]; exact m4
  replace g5 : W5q.cell? ⟨gl, 5, none⟩ = some (.bool L5) := by rw [← hWq]; exact g5
  replace m5 : W5q.cell? ⟨ml, 5, none⟩ = some (.bool L5) := by rw [← hWq]; exact m5
  replace HBw := hid (show Below W.heap.size W W5q by rw [← hWq]; exact HBw.out.trans ((below_drewN _ _).mono HBw.out.size))
  clear hWq
  go_wp2
  rw [rounds_succ]
  go_upto_region 32 with fail
  clear m0 m1 m2 m3 m4 m5
  rcases hF.out with ⟨rfl, rfl, rfl, rfl, rfl, rfl, rfl⟩ | ⟨rfl, hF'⟩
  · go_wp2_with (first | (go_at_call 15; (with_reducible refine (cNaN _).mono ?_); rintro e w' ⟨rfl, hw⟩; (have hw' := hw.symm); subst hw'; clear hw) | (go_at_call 13; (with_reducible refine (awake10_c _).mono ?_); rintro e We ⟨rfl, hBe⟩))
    go_ret
    exact ⟨rfl, HBw.out.trans (hBe.mono HBw.out.size)⟩
  go_upto_region 34 with (go_at_call 15; (with_reducible refine (cNaN _).mono ?_); rintro e w' ⟨rfl, hw⟩; (have hw' := hw.symm); subst hw'; clear hw)
  have inst : Nonempty (BW W5q) := ⟨⟨_, Below.refl _ _⟩⟩
  have c0 := BW.cell g0
  have c1 := BW.cell g1
  have c2 := BW.cell g2
  have c3 := BW.cell g3
  have c4 := BW.cell g4
  have c5 := BW.cell g5
  clear g0 g1 g2 g3 g4 g5 cNaN
  rcases hF' with ⟨rfl, rfl, rfl, rfl, rfl, rfl⟩ | ⟨rfl, rfl, rfl, rfl, rfl, rfl⟩ | ⟨rfl, rfl, rfl, rfl, rfl, rfl⟩
  all_goals (
    simp only [List.append_eq, List.cons_append, List.nil_append]
    refine wp_region_quiet_below (by kernel_rfl) (by kernel_rfl) ?_
    repeat (go_big_quiet_step ((go_at_call 13; exact BW.calls (awake10_c _))))
    refine wpQuiet_nil ?_
    intro _ hw'
    obtain ⟨pw, hw''⟩ := hw'
    subst hw''
    go_wp2
    go_ret
    exact ⟨rfl, HBw.out.trans (pw.h.mono HBw.out.size)⟩)
end Go.Proofs.YthgcdohndchdkaaGreatDoor.W.Nu
