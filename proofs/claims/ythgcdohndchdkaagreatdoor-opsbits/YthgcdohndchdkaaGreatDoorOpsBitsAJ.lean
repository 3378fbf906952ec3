import Derived.Test.YthgcdohndchdkaaGreatDoorBase31
/- OpsBits: the walk. -/
namespace Go.Proofs.YthgcdohndchdkaaGreatDoor.W.Nu
open Go.ChangeShapes Go.WideShapes Go.RowKit Go.Shelf
set_option linter.unusedVariables false
set_option maxRecDepth 100000 in
set_option maxHeartbeats 2000000 in
theorem bits_walk0 (i j : Int) (hi0 : -9223372036854775808 ≤ i) (hi1 : i ≤ 9223372036854775807) (hj0 : -9223372036854775808 ≤ j) (hj1 : j ≤ 9223372036854775807) (W : World) : Calls Tryz.prog 6 #[.int .i64 i, .int .i64 j] W fun e w' => e = .returned (.bool true) ∧ Below W.heap.size W w' := by
  have cn := hf_new (Below.refl W.heap.size W) 100 (by decide)
  rw [show ((100 : Nat) : Int) = 100 from rfl] at cn
  have HI := hid (And.intro hi0 hi1)
  have HJ := hid (And.intro hj0 hj1)
  clear hi0 hi1 hj0 hj1
  have nI2 : Hid (∀ n, nI n ≤ 2) := fun n => by unfold nI; split <;> omega
  go_enter Tryz.func6, Tryz.ntmps6
  go_upto_region 4 with (go_at_call 7; (with_reducible refine cn.mono ?_); rintro e W1 ⟨hb, rfl, q1, hB1⟩; clear cn)
  have c1 := lbox_i q1 (.slice none 0 0) [] (words_nil' W1) i HI.out.1 HI.out.2 (by decide) (by decide)
  go_upto_region 5 with (go_at_call 16; (with_reducible refine c1.mono ?_); rintro e W2 ⟨x, H2, rfl, q2, hE2, hI2, hs2, hl2, hA2, hx2, hU2⟩; clear c1)
  have s2 : sumH H2 ≤ 2 := by rw [hs2]; have := nI2.out i; have : sumH [] = 0 := rfl; omega
  have l2 : H2.length ≤ 1 := hl2
  have bA : Below W2.heap.size W2 (W2.alloc (.cells #[.int .u64 (x : Nat)] 22)) := (Below.refl _ W2).alloc (Nat.le_refl _) _
  have c2 := lbox_i (q2.below' bA) (.slice (some ⟨W2.heap.size, 0, none⟩) 1 1) [x] (words_of1 (World.cell?_alloc_new W2 #[.int .u64 (x : Nat)] 22 0) hx2) j HJ.out.1 HJ.out.2 (by omega) (by omega)
  clear q1 hE2 hs2 hl2 hA2 hU2 hB1 bA q2
  go_upto_region 6 with (go_at_call 16; (with_reducible refine c2.mono ?_); rintro e W3 ⟨y, H3, rfl, q3, hE3, hI3, hs3, hl3, hA3, hy3, hU3⟩; clear c2)
  have s3 : sumH H3 ≤ 4 := by rw [hs3]; have := nI2.out j; omega
  have l3 : H3.length ≤ 2 := by omega
  have hx := hid (hI2.ext hE3)
  have hy := hid hI3
  have XY := hid (And.intro hx2 hy3)
  clear hE3 hs3 hl3 hA3 hU3 hI2 hI3 s2 l2 hx2 hy3
  go_upto_region 9 with fail
  obtain ⟨K4, q4, kr, -⟩ := hf_aside q3 (.cells #[.int .u64 (x : Nat), .int .u64 (y : Nat)] 22)
  have e4 := World.cell?_alloc_new W3 #[.int .u64 (x : Nat), .int .u64 (y : Nat)] 22
  have r0 : (W3.alloc (.cells #[.int .u64 (x : Nat), .int .u64 (y : Nat)] 22)).cell? ⟨W3.heap.size, 0, none⟩ = some (.int .u64 (x : Nat)) := e4 0
  have r1 : (W3.alloc (.cells #[.int .u64 (x : Nat), .int .u64 (y : Nat)] 22)).cell? ⟨W3.heap.size, 1, none⟩ = some (.int .u64 (y : Nat)) := e4 1
  clear e4 q3
  generalize W3.heap.size = rb at *
  generalize W3.alloc (.cells #[.int .u64 (x : Nat), .int .u64 (y : Nat)] 22) = W4 at *
  go_upto_region 11 with fail
  obtain ⟨K5, q5, ks, kk⟩ := hf_aside q4 (.cells #[.string ⟨#[38]⟩, .string ⟨#[124]⟩, .string ⟨#[94]⟩] 9)
  have e5 := World.cell?_alloc_new W4 #[.string ⟨#[38]⟩, .string ⟨#[124]⟩, .string ⟨#[94]⟩] 9
  have s0 : (W4.alloc (.cells #[.string ⟨#[38]⟩, .string ⟨#[124]⟩, .string ⟨#[94]⟩] 9)).cell? ⟨W4.heap.size, 0, none⟩ = some (.string ⟨#[38]⟩) := e5 0
  have s1 : (W4.alloc (.cells #[.string ⟨#[38]⟩, .string ⟨#[124]⟩, .string ⟨#[94]⟩] 9)).cell? ⟨W4.heap.size, 1, none⟩ = some (.string ⟨#[124]⟩) := e5 1
  have s2 : (W4.alloc (.cells #[.string ⟨#[38]⟩, .string ⟨#[124]⟩, .string ⟨#[94]⟩] 9)).cell? ⟨W4.heap.size, 2, none⟩ = some (.string ⟨#[94]⟩) := e5 2
  have hB5 : Below W4.heap.size W4 (W4.alloc (.cells #[.string ⟨#[38]⟩, .string ⟨#[124]⟩, .string ⟨#[94]⟩] 9)) := (Below.refl _ W4).alloc (Nat.le_refl _) _
  have rl := cell_lt r0
  replace r0 := cell_keep hB5 r0
  replace r1 := cell_keep hB5 r1
  replace kr := kk _ kr
  have hz : (W4.alloc (.cells #[.string ⟨#[38]⟩, .string ⟨#[124]⟩, .string ⟨#[94]⟩] 9)).heap.size = W4.heap.size + 1 := World.size_alloc ..
  have hq5 := q5.1.size
  have o := mineI_nil (W4.alloc (.cells #[.string ⟨#[38]⟩, .string ⟨#[124]⟩, .string ⟨#[94]⟩] 9)).heap.size (W4.alloc (.cells #[.string ⟨#[38]⟩, .string ⟨#[124]⟩, .string ⟨#[94]⟩] 9)) K5
  obtain ⟨B, hBe⟩ : ∃ B, B = (W4.alloc (.cells #[.string ⟨#[38]⟩, .string ⟨#[124]⟩, .string ⟨#[94]⟩] 9)).heap.size := ⟨_, rfl⟩
  rw [← hBe] at o
  have BF := hid (show W.heap.size ≤ B ∧ rb < B ∧ W4.heap.size < B from ⟨by omega, by omega, by omega⟩)
  have zb := hid (show B ≤ (W4.alloc (.cells #[.string ⟨#[38]⟩, .string ⟨#[124]⟩, .string ⟨#[94]⟩] 9)).heap.size by omega)
  clear e5 hB5 q4 kk hz hq5 hBe rl
  generalize W4.heap.size = sb at *
  generalize W4.alloc (.cells #[.string ⟨#[38]⟩, .string ⟨#[124]⟩, .string ⟨#[94]⟩] 9) = W5 at *
  generalize Value.slice none 0 0 = v00 at o ⊢
  have KR := hid (And.intro kr ks)
  have Q := hid q5
  have O := hid o
  have SL := hid (And.intro s3 l3)
  clear kr ks q5 o s3 l3
  go_wp2
  refine wp_loop_rounds 4 ?_
  rw [rounds_succ]
  have cb := bin_and Q.out x y i j hx.out hy.out (.slice (some ⟨rb, 0, none⟩) 2 2) [x, y] (words_of2 r0 r1 XY.out.1 XY.out.2) (by simp) (by have := SL.out; omega) (by have := SL.out; omega)
  go_upto_region 14 with (go_at_call 9; (with_reducible refine cb.mono ?_); rintro e Wa ⟨w, Ha, rfl, qa, hEa, hIa, hsa, hla, -, -, hUa⟩; clear cb)
  replace r0 := cell_upd hUa KR.out.1 r0
  replace r1 := cell_upd hUa KR.out.1 r1
  replace s0 := cell_upd hUa KR.out.2 s0
  replace s1 := cell_upd hUa KR.out.2 s1
  replace s2 := cell_upd hUa KR.out.2 s2
  replace O := hid (O.out.upd hUa)
  replace hx := hid (hx.out.ext hEa)
  replace hy := hid (hy.out.ext hEa)
  replace zb := hid (Nat.le_trans zb.out hUa.size)
  replace SL := hid (show sumH Ha ≤ 6 ∧ Ha.length ≤ 3 from ⟨by have := SL.out; have := nI2.out (bits .and .i64 i j); omega, by have := SL.out; omega⟩)
  have cu := unbox_int qa.2.choose_spec.1 w _ hIa
  replace Q := hid qa
  clear hEa hIa hsa hla hUa qa
  go_upto_region 15 with (go_at_call 18; (with_reducible refine cu.mono ?_); rintro e Wb ⟨rfl, hBb⟩; clear cu)
  have hBc : Below Wa.heap.size Wa (Wb.alloc (.cells #[.int .i64 2, .int .i64 (bits .and .i64 i j), .int .u64 0, .string ⟨#[]⟩, .int .u64 0] 30)) := hBb.alloc hBb.size _
  have eN := World.cell?_alloc_new Wb #[.int .i64 2, .int .i64 (bits .and .i64 i j), .int .u64 0, .string ⟨#[]⟩, .int .u64 0] 30
  replace r0 := cell_keep hBc r0
  replace r1 := cell_keep hBc r1
  replace s0 := cell_keep hBc s0
  replace s1 := cell_keep hBc s1
  replace s2 := cell_keep hBc s2
  replace O := hid (O.out.below hBc)
  replace Q := hid (Q.out.below' hBc)
  replace zb := hid (Nat.le_trans zb.out hBc.size)
  clear hBb hBc
  generalize Wb.heap.size = nb at *
  generalize Wb.alloc (.cells #[.int .i64 2, .int .i64 (bits .and .i64 i j), .int .u64 0, .string ⟨#[]⟩, .int .u64 0] 30) = Wc at *
  go_upto_region 17 with fail
  obtain ⟨v0, Wd, K0', hrun, kk, qd, od, far, zd⟩ := mineI_app Q.out B BF.out.1 zb.out 50 _ _ O.out (bits .and .i64 i j) (by simp)
  replace r0 := far _ _ _ BF.out.2.1 r0
  replace r1 := far _ _ _ BF.out.2.1 r1
  replace s0 := far _ _ _ BF.out.2.2 s0
  replace s1 := far _ _ _ BF.out.2.2 s1
  replace s2 := far _ _ _ BF.out.2.2 s2
  replace KR := hid (And.intro (kk _ KR.out.1) (kk _ KR.out.2))
  replace Q := hid qd
  replace O := hid od
  replace zb := hid (Nat.le_trans zb.out zd)
  clear kk qd od far zd
  go_wp2_with (at_builtin; refine Lib.wpList_append_run _ rfl (.tmp 90) (.tmp 93) 50 50 rfl _ _ (by simp [Act.eval]) (by simp [Act.eval]) _ _ hrun ?_)
  clear hrun eN
  rw [rounds_succ]
  have cb := bin_or Q.out x y i j hx.out hy.out (.slice (some ⟨rb, 0, none⟩) 2 2) [x, y] (words_of2 r0 r1 XY.out.1 XY.out.2) (by simp) (by have := SL.out; omega) (by have := SL.out; omega)
  go_upto_region 14 with (go_at_call 9; (with_reducible refine cb.mono ?_); rintro e Wa ⟨w, Ha, rfl, qa, hEa, hIa, hsa, hla, -, -, hUa⟩; clear cb)
  replace r0 := cell_upd hUa KR.out.1 r0
  replace r1 := cell_upd hUa KR.out.1 r1
  replace s0 := cell_upd hUa KR.out.2 s0
  replace s1 := cell_upd hUa KR.out.2 s1
  replace s2 := cell_upd hUa KR.out.2 s2
  replace O := hid (O.out.upd hUa)
  replace hx := hid (hx.out.ext hEa)
  replace hy := hid (hy.out.ext hEa)
  replace zb := hid (Nat.le_trans zb.out hUa.size)
  replace SL := hid (show sumH Ha ≤ 8 ∧ Ha.length ≤ 4 from ⟨by have := SL.out; have := nI2.out (bits .or .i64 i j); omega, by have := SL.out; omega⟩)
  have cu := unbox_int qa.2.choose_spec.1 w _ hIa
  replace Q := hid qa
  clear hEa hIa hsa hla hUa qa
  go_upto_region 15 with (go_at_call 18; (with_reducible refine cu.mono ?_); rintro e Wb ⟨rfl, hBb⟩; clear cu)
  have hBc : Below Wa.heap.size Wa (Wb.alloc (.cells #[.int .i64 2, .int .i64 (bits .or .i64 i j), .int .u64 0, .string ⟨#[]⟩, .int .u64 0] 30)) := hBb.alloc hBb.size _
  have eN := World.cell?_alloc_new Wb #[.int .i64 2, .int .i64 (bits .or .i64 i j), .int .u64 0, .string ⟨#[]⟩, .int .u64 0] 30
  replace r0 := cell_keep hBc r0
  replace r1 := cell_keep hBc r1
  replace s0 := cell_keep hBc s0
  replace s1 := cell_keep hBc s1
  replace s2 := cell_keep hBc s2
  replace O := hid (O.out.below hBc)
  replace Q := hid (Q.out.below' hBc)
  replace zb := hid (Nat.le_trans zb.out hBc.size)
  clear hBb hBc
  generalize Wb.heap.size = nb at *
  generalize Wb.alloc (.cells #[.int .i64 2, .int .i64 (bits .or .i64 i j), .int .u64 0, .string ⟨#[]⟩, .int .u64 0] 30) = Wc at *
  go_upto_region 17 with fail
  obtain ⟨v1, Wd, K1', hrun, kk, qd, od, far, zd⟩ := mineI_app Q.out B BF.out.1 zb.out 50 _ _ O.out (bits .or .i64 i j) (by simp)
  replace r0 := far _ _ _ BF.out.2.1 r0
  replace r1 := far _ _ _ BF.out.2.1 r1
  replace s0 := far _ _ _ BF.out.2.2 s0
  replace s1 := far _ _ _ BF.out.2.2 s1
  replace s2 := far _ _ _ BF.out.2.2 s2
  replace KR := hid (And.intro (kk _ KR.out.1) (kk _ KR.out.2))
  replace Q := hid qd
  replace O := hid od
  replace zb := hid (Nat.le_trans zb.out zd)
  clear kk qd od far zd
  go_wp2_with (at_builtin; refine Lib.wpList_append_run _ rfl (.tmp 90) (.tmp 93) 50 50 rfl _ _ (by simp [Act.eval]) (by simp [Act.eval]) _ _ hrun ?_)
  clear hrun eN
  rw [rounds_succ]
  have cb := bin_xor Q.out x y i j hx.out hy.out (.slice (some ⟨rb, 0, none⟩) 2 2) [x, y] (words_of2 r0 r1 XY.out.1 XY.out.2) (by simp) (by have := SL.out; omega) (by have := SL.out; omega)
  go_upto_region 14 with (go_at_call 9; (with_reducible refine cb.mono ?_); rintro e Wa ⟨w, Ha, rfl, qa, hEa, hIa, hsa, hla, -, -, hUa⟩; clear cb)
  replace r0 := cell_upd hUa KR.out.1 r0
  replace r1 := cell_upd hUa KR.out.1 r1
  replace s0 := cell_upd hUa KR.out.2 s0
  replace s1 := cell_upd hUa KR.out.2 s1
  replace s2 := cell_upd hUa KR.out.2 s2
  replace O := hid (O.out.upd hUa)
  replace hx := hid (hx.out.ext hEa)
  replace hy := hid (hy.out.ext hEa)
  replace zb := hid (Nat.le_trans zb.out hUa.size)
  replace SL := hid (show sumH Ha ≤ 10 ∧ Ha.length ≤ 5 from ⟨by have := SL.out; have := nI2.out (bits .xor .i64 i j); omega, by have := SL.out; omega⟩)
  have cu := unbox_int qa.2.choose_spec.1 w _ hIa
  replace Q := hid qa
  clear hEa hIa hsa hla hUa qa
  go_upto_region 15 with (go_at_call 18; (with_reducible refine cu.mono ?_); rintro e Wb ⟨rfl, hBb⟩; clear cu)
  have hBc : Below Wa.heap.size Wa (Wb.alloc (.cells #[.int .i64 2, .int .i64 (bits .xor .i64 i j), .int .u64 0, .string ⟨#[]⟩, .int .u64 0] 30)) := hBb.alloc hBb.size _
  have eN := World.cell?_alloc_new Wb #[.int .i64 2, .int .i64 (bits .xor .i64 i j), .int .u64 0, .string ⟨#[]⟩, .int .u64 0] 30
  replace r0 := cell_keep hBc r0
  replace r1 := cell_keep hBc r1
  replace s0 := cell_keep hBc s0
  replace s1 := cell_keep hBc s1
  replace s2 := cell_keep hBc s2
  replace O := hid (O.out.below hBc)
  replace Q := hid (Q.out.below' hBc)
  replace zb := hid (Nat.le_trans zb.out hBc.size)
  clear hBb hBc
  generalize Wb.heap.size = nb at *
  generalize Wb.alloc (.cells #[.int .i64 2, .int .i64 (bits .xor .i64 i j), .int .u64 0, .string ⟨#[]⟩, .int .u64 0] 30) = Wc at *
  go_upto_region 17 with fail
  obtain ⟨v2, Wd, K2', hrun, kk, qd, od, far, zd⟩ := mineI_app Q.out B BF.out.1 zb.out 50 _ _ O.out (bits .xor .i64 i j) (by simp)
  replace r0 := far _ _ _ BF.out.2.1 r0
  replace r1 := far _ _ _ BF.out.2.1 r1
  replace s0 := far _ _ _ BF.out.2.2 s0
  replace s1 := far _ _ _ BF.out.2.2 s1
  replace s2 := far _ _ _ BF.out.2.2 s2
  replace KR := hid (And.intro (kk _ KR.out.1) (kk _ KR.out.2))
  replace Q := hid qd
  replace O := hid od
  replace zb := hid (Nat.le_trans zb.out zd)
  clear kk qd od far zd
  go_wp2_with (at_builtin; refine Lib.wpList_append_run _ rfl (.tmp 90) (.tmp 93) 50 50 rfl _ _ (by simp [Act.eval]) (by simp [Act.eval]) _ _ hrun ?_)
  clear hrun eN
  rw [rounds_succ]
  have hown : ∃ g cap, v2 = .slice (some ⟨g, 0, none⟩) 3 cap ∧ K2' g ∧ Wd.cell? ⟨g, 0, none⟩ = some (.int .i64 (bits .and .i64 i j)) ∧ Wd.cell? ⟨g, 1, none⟩ = some (.int .i64 (bits .or .i64 i j)) ∧ Wd.cell? ⟨g, 2, none⟩ = some (.int .i64 (bits .xor .i64 i j)) := by
    have o := O.out
    have hk := o.keep
    rcases id o.row.2 with ⟨_, h0⟩ | ⟨g, cap, cur, rfl, _⟩
    · simp at h0
    · exact ⟨g, cap, rfl, hk g rfl, o.row.cells (g := g) rfl 0 _ rfl, o.row.cells (g := g) rfl 1 _ rfl, o.row.cells (g := g) rfl 2 _ rfl⟩
  obtain ⟨g, cap, hv2, kg, g0, g1, g2⟩ := hown
  subst hv2
  go_upto_region 19 with fail
  have cb := un_turned Q.out x i hx.out (.slice (some ⟨rb, 0, none⟩) 2 2) [x, y] (words_of2 r0 r1 XY.out.1 XY.out.2) (by simp) (by have := SL.out; omega) (by have := SL.out; omega)
  go_upto_region 20 with (go_at_call 10; (with_reducible refine cb.mono ?_); rintro e Wa ⟨w, Ha, rfl, qa, hEa, hIa, hsa, hla, -, -, hUa⟩; clear cb)
  replace g0 := cell_upd hUa kg g0
  replace g1 := cell_upd hUa kg g1
  replace g2 := cell_upd hUa kg g2
  have cu := unbox_int qa.2.choose_spec.1 w _ hIa
  have HB := hid qa.bel
  clear hEa hIa hsa hla hUa qa r0 r1 s0 s1 s2 O KR Q zb SL
  go_upto_region 21 with (go_at_call 18; (with_reducible refine cu.mono ?_); rintro e Wb ⟨rfl, hBb⟩; clear cu)
  have hBc : Below Wa.heap.size Wa (Wb.alloc (.cells #[.int .i64 2, .int .i64 (bits .xor .i64 (-1) i), .int .u64 0, .string ⟨#[]⟩, .int .u64 0] 30)) := hBb.alloc hBb.size _
  have eN := World.cell?_alloc_new Wb #[.int .i64 2, .int .i64 (bits .xor .i64 (-1) i), .int .u64 0, .string ⟨#[]⟩, .int .u64 0] 30
  replace g0 := cell_keep hBc g0
  replace g1 := cell_keep hBc g1
  replace g2 := cell_keep hBc g2
  replace HB := hid (HB.out.trans (hBc.mono HB.out.size))
  clear hBb hBc
  generalize Wb.heap.size = nb at *
  generalize Wb.alloc (.cells #[.int .i64 2, .int .i64 (bits .xor .i64 (-1) i), .int .u64 0, .string ⟨#[]⟩, .int .u64 0] 30) = Wc at *
  go_wp2_with (go_at_call 13; (with_reducible refine (awake10_c _).mono ?_); rintro e We ⟨rfl, hBe⟩)
  go_ret
  exact ⟨rfl, HB.out.trans (hBe.mono HB.out.size)⟩
end Go.Proofs.YthgcdohndchdkaaGreatDoor.W.Nu
