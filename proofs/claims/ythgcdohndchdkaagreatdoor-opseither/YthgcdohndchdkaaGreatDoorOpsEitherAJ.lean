import Derived.Test.YthgcdohndchdkaaGreatDoorO8cJ
/- OpsEither: the walk. -/
namespace Go.Proofs.YthgcdohndchdkaaGreatDoor.W.Nu
open Go.ChangeShapes Go.WideShapes Go.RowKit Go.Shelf
set_option linter.unusedVariables false
set_option maxRecDepth 100000 in
set_option maxHeartbeats 4000000 in
theorem either_core (a b : Bool) (i u j v : Int) (i0 : -9223372036854775808 ≤ i) (i1 : i ≤ 9223372036854775807) (u0 : 0 ≤ u) (u1 : u < 18446744073709551616) (j0 : -9223372036854775808 ≤ j) (j1 : j ≤ 9223372036854775807) (v0 : 0 ≤ v) (v1 : v < 18446744073709551616) (ea em nan : Bool) (RA RM : Res) (E : Bool)
    (hRA : Hid (addR a (nw a i) (nd a u) b (nw b j) (nd b v) = RA)) (hRM : Hid (mulR a (nw a i) (nd a u) b (nw b j) (nd b v) = RM)) (hE : Hid (equalN a (nw a i) (nd a u) b (nw b j) (nd b v) = E)) (hea : (RA.e == 0) = ea) (hem : (RM.e == 0) = em) (hS : Hid (equalN a (nw a i) (nd a u) a (nw a i) (nd a u) = !nan)) (hN : nan = (!a && Go.Proofs.YthgcdohndchdkaaGreatDoor.W.nanB u)) (W : World) :
    Calls Tryz.prog 5 #[.agg #[.bool a, .int .i64 i, .int .u64 u], .agg #[.bool b, .int .i64 j, .int .u64 v]] W fun e w' => e = .returned (.bool true) ∧ Below W.heap.size W w' := by
  have hP : Below W.heap.size W ((W.alloc (.cells #[.bool a, .int .i64 i, .int .u64 u] 44)).alloc (.cells #[.bool b, .int .i64 j, .int .u64 v] 44)) := ((Below.refl _ W).alloc (Nat.le_refl _) _).alloc (by rw [World.size_alloc]; omega) _
  obtain ⟨fA, fB, -⟩ := (Gr.refl ((W.alloc (.cells #[.bool a, .int .i64 i, .int .u64 u] 44)).alloc (.cells #[.bool b, .int .i64 j, .int .u64 v] 44))).two (Nat.zero_lt_succ _) (Nat.zero_lt_succ _)
  have cNaN := fun w => Go.Proofs.YthgcdohndchdkaaGreatDoor.W.refNaN_c u u0 u1 w
  have RG := hid (And.intro (And.intro i0 i1) (And.intro (And.intro u0 u1) (And.intro (And.intro j0 j1) (And.intro v0 v1))))
  clear i0 i1 u0 u1 j0 j1 v0 v1
  obtain ⟨p1, hp1⟩ : ∃ n : Nat, boolW (E == true) = (n : Int) := ⟨(boolW (E == true)).toNat, by cases E <;> decide⟩
  obtain ⟨p2, hp2⟩ : ∃ n : Nat, boolW (E == false) = (n : Int) := ⟨(boolW (E == false)).toNat, by cases E <;> decide⟩
  have PL := hid (show p1 < 18446744073709551616 ∧ p2 < 18446744073709551616 from ⟨by have : boolW (E == true) < 18446744073709551616 := (by cases E <;> decide); omega, by have : boolW (E == false) < 18446744073709551616 := (by cases E <;> decide); omega⟩)
  have huq : (boolW (!(E == true)) == (p2 : Int)) = true := by rw [← hp2]; cases E <;> decide
  have huq2 : (boolW (!E) == (p2 : Int)) = true := by rw [← hp2]; cases E <;> decide
  have hsf : (boolW ((!nan) == true) == boolW (!nan)) = true := by cases nan <;> decide
  have HP := hid (And.intro hp1 hp2)
  clear hp1 hp2
  go_enter Tryz.func5, Tryz.ntmps5
  go_upto_region 1 with fail
  have HW := hid hP
  have cn := hf_new hP 100 (by decide)
  rw [show ((100 : Nat) : Int) = 100 from rfl] at cn
  have hla : W.heap.size < ((W.alloc (.cells #[.bool a, .int .i64 i, .int .u64 u] 44)).alloc (.cells #[.bool b, .int .i64 j, .int .u64 v] 44)).heap.size := by rw [World.size_alloc, World.size_alloc]; omega
  have hlb : W.heap.size + 1 < ((W.alloc (.cells #[.bool a, .int .i64 i, .int .u64 u] 44)).alloc (.cells #[.bool b, .int .i64 j, .int .u64 v] 44)).heap.size := by rw [World.size_alloc, World.size_alloc]; omega
  have LAB := hid (And.intro hla hlb)
  clear hP hla hlb
  generalize W.heap.size + 1 = bB at *
  generalize (W.alloc (.cells #[.bool a, .int .i64 i, .int .u64 u] 44)).alloc (.cells #[.bool b, .int .i64 j, .int .u64 v] 44) = W0 at *
  go_upto_region 4 with (go_at_call 7; (with_reducible refine cn.mono ?_); rintro e W1 ⟨hb, rfl, q1, hB1⟩; clear cn)
  replace fA := cells_keep hB1 LAB.out.1 fA
  replace fB := cells_keep hB1 LAB.out.2 fB
  have zA : W.heap.size < W1.heap.size := by have := LAB.out.1; have := hB1.size; omega
  have zB : bB < W1.heap.size := by have := LAB.out.2; have := hB1.size; omega
  have c1 := lbox_n q1 (.slice none 0 0) [] (words_nil' W1) a i u RG.out.1.1 RG.out.1.2 RG.out.2.1.1 RG.out.2.1.2 (by decide) (by decide)
  go_upto_region 5 with (go_at_call 16; (with_reducible refine c1.mono ?_); rintro e W2 ⟨x, H2, rfl, q2, hE2, hx2, hs2, hl2, hU2⟩; clear c1)
  replace fA := cells_upd hU2 LAB.out.1 zA fA
  replace fB := cells_upd hU2 LAB.out.2 zB fB
  replace zA := Nat.lt_of_lt_of_le zA hU2.size
  have s2 : sumH H2 ≤ 2 := by have : sumH [] = 0 := rfl
                              omega
  have l2 : H2.length ≤ 1 := hl2
  have bX : Below W2.heap.size W2 (W2.alloc (.cells #[.int .u64 (x : Nat)] 22)) := (Below.refl _ W2).alloc (Nat.le_refl _) _
  have zB2 := Nat.lt_of_lt_of_le zB hU2.size
  have fB2 := cells_keep bX zB2 fB
  have c2 := lbox_n (q2.below' bX) (.slice (some ⟨W2.heap.size, 0, none⟩) 1 1) [x] (words_of1 (World.cell?_alloc_new W2 #[.int .u64 (x : Nat)] 22 0) hx2.lt) b j v RG.out.2.2.1.1 RG.out.2.2.1.2 RG.out.2.2.2.1 RG.out.2.2.2.2 (by omega) (by omega)
  replace fA := cells_keep bX zA fA
  replace zA := Nat.lt_of_lt_of_le zA bX.size
  have HX := hid hx2
  clear q1 hE2 hs2 hl2 hU2 hB1 bX q2 zB zB2 hx2
  go_upto_region 6 with (go_at_call 16; (with_reducible refine c2.mono ?_); rintro e W3 ⟨y, H3, rfl, q3, hE3, hy3, hs3, hl3, hU3⟩; clear c2)
  replace fA := cells_upd hU3 LAB.out.1 zA fA
  replace zA := Nat.lt_of_lt_of_le zA hU3.size
  have SL := hid (show sumH H3 ≤ 4 ∧ H3.length ≤ 2 from ⟨by omega, by omega⟩)
  have hx := hid (HX.out.ext hE3)
  have hy := hid hy3
  have XY := hid (And.intro HX.out.lt hy3.lt)
  clear hE3 hs3 hl3 hU3 s2 l2 hy3 HX fB fB2
  go_upto_region 9 with fail
  obtain ⟨K4, q4, kr, kk4⟩ := hf_aside q3 (.cells #[.int .u64 (x : Nat), .int .u64 (y : Nat)] 22)
  have ka := kk4 W.heap.size LAB.out.1
  have e4 := World.cell?_alloc_new W3 #[.int .u64 (x : Nat), .int .u64 (y : Nat)] 22
  have r0 : (W3.alloc (.cells #[.int .u64 (x : Nat), .int .u64 (y : Nat)] 22)).cell? ⟨W3.heap.size, 0, none⟩ = some (.int .u64 (x : Nat)) := e4 0
  have r1 : (W3.alloc (.cells #[.int .u64 (x : Nat), .int .u64 (y : Nat)] 22)).cell? ⟨W3.heap.size, 1, none⟩ = some (.int .u64 (y : Nat)) := e4 1
  have b4 : Below W3.heap.size W3 (W3.alloc (.cells #[.int .u64 (x : Nat), .int .u64 (y : Nat)] 22)) := (Below.refl _ W3).alloc (Nat.le_refl _) _
  replace fA := cells_keep b4 zA fA
  replace zA := Nat.lt_of_lt_of_le zA b4.size
  clear e4 q3 kk4 b4
  generalize W3.heap.size = rb at *
  generalize W3.alloc (.cells #[.int .u64 (x : Nat), .int .u64 (y : Nat)] 22) = W4 at *
  go_upto_region 10 with fail
  obtain ⟨K5, q5, ks, kk⟩ := hf_aside q4 (.cells #[.string ⟨#[43]⟩, .string ⟨#[42]⟩, .string ⟨#[61, 61]⟩, .string ⟨#[33, 61]⟩] 9)
  have e5 := World.cell?_alloc_new W4 #[.string ⟨#[43]⟩, .string ⟨#[42]⟩, .string ⟨#[61, 61]⟩, .string ⟨#[33, 61]⟩] 9
  have s0 : (W4.alloc (.cells #[.string ⟨#[43]⟩, .string ⟨#[42]⟩, .string ⟨#[61, 61]⟩, .string ⟨#[33, 61]⟩] 9)).cell? ⟨W4.heap.size, 0, none⟩ = some (.string ⟨#[43]⟩) := e5 0
  have s1 : (W4.alloc (.cells #[.string ⟨#[43]⟩, .string ⟨#[42]⟩, .string ⟨#[61, 61]⟩, .string ⟨#[33, 61]⟩] 9)).cell? ⟨W4.heap.size, 1, none⟩ = some (.string ⟨#[42]⟩) := e5 1
  have s2 : (W4.alloc (.cells #[.string ⟨#[43]⟩, .string ⟨#[42]⟩, .string ⟨#[61, 61]⟩, .string ⟨#[33, 61]⟩] 9)).cell? ⟨W4.heap.size, 2, none⟩ = some (.string ⟨#[61, 61]⟩) := e5 2
  have s3 : (W4.alloc (.cells #[.string ⟨#[43]⟩, .string ⟨#[42]⟩, .string ⟨#[61, 61]⟩, .string ⟨#[33, 61]⟩] 9)).cell? ⟨W4.heap.size, 3, none⟩ = some (.string ⟨#[33, 61]⟩) := e5 3
  have hB5 : Below W4.heap.size W4 (W4.alloc (.cells #[.string ⟨#[43]⟩, .string ⟨#[42]⟩, .string ⟨#[61, 61]⟩, .string ⟨#[33, 61]⟩] 9)) := (Below.refl _ W4).alloc (Nat.le_refl _) _
  replace r0 := cell_keep hB5 r0
  replace r1 := cell_keep hB5 r1
  replace fA := cells_keep hB5 zA fA
  replace zA := Nat.lt_of_lt_of_le zA hB5.size
  have KR := hid (And.intro (kk _ kr) (And.intro ks (kk _ ka)))
  have Q := hid q5
  clear e5 hB5 q4 kk q5 kr ks ka
  generalize W4.heap.size = sb at *
  generalize W4.alloc (.cells #[.string ⟨#[43]⟩, .string ⟨#[42]⟩, .string ⟨#[61, 61]⟩, .string ⟨#[33, 61]⟩] 9) = W5 at *
  cases ea <;> cases em
  all_goals (
    go_wp2
    refine wp_loop_rounds 5 ?_
    rw [rounds_succ]
    have cb := bin_addN Q.out x y a b (nw a i) (nd a u) (nw b j) (nd b v) hx.out hy.out (.slice (some ⟨rb, 0, none⟩) 2 2) [x, y] (words_of2 r0 r1 XY.out.1 XY.out.2) (by simp) (by have := SL.out; omega) (by have := SL.out; omega)
    rw [hRA.out] at cb
    go_upto_region 13 with (go_at_call 9; (with_reducible refine cb.mono ?_); rintro e Wa ⟨p, Ha, rfl, qa, hEa, hsa, hla, hUa, hpl, hok, hno⟩; clear cb)
    replace r0 := cell_upd hUa KR.out.1 r0
    replace r1 := cell_upd hUa KR.out.1 r1
    replace s0 := cell_upd hUa KR.out.2.1 s0
    replace s1 := cell_upd hUa KR.out.2.1 s1
    replace s2 := cell_upd hUa KR.out.2.1 s2
    replace s3 := cell_upd hUa KR.out.2.1 s3
    replace fA := cells_upd hUa KR.out.2.2 zA fA
    replace zA := Nat.lt_of_lt_of_le zA hUa.size
    replace hx := hid (hx.out.ext hEa)
    replace hy := hid (hy.out.ext hEa)
    replace SL := hid (show sumH Ha ≤ 6 ∧ Ha.length ≤ 3 from ⟨by have := SL.out; omega, by have := SL.out; omega⟩)
    replace Q := hid qa
    have HK := hid (And.intro hpl hok)
    clear qa hEa hsa hla hUa hpl hok hno
    obtain ⟨g, gc, Wv, hrun, hBv, hwv⟩ := app3 Wa rb x y p 34 r0 r1 XY.out.1 XY.out.2 HK.out.1
    replace r0 := cell_keep hBv r0
    replace r1 := cell_keep hBv r1
    replace s0 := cell_keep hBv s0
    replace s1 := cell_keep hBv s1
    replace s2 := cell_keep hBv s2
    replace s3 := cell_keep hBv s3
    replace fA := cells_keep hBv zA fA
    replace zA := Nat.lt_of_lt_of_le zA hBv.size
    replace Q := hid (Q.out.below' hBv)
    have cb2 := bin_addN Q.out y x b a (nw b j) (nd b v) (nw a i) (nd a u) hy.out hx.out _ [x, y, p] hwv (by simp) (by have := SL.out; omega) (by have := SL.out; omega)
    rw [addR_comm, hRA.out] at cb2
    clear hBv hwv
    go_upto_region 14 with (first | (at_builtin; refine Lib.wpList_append_run _ rfl (.tmp 82) (.tmp 84) 34 34 rfl _ _ (by simp [Act.eval]) (by simp [Act.eval]) _ _ hrun ?_) | (go_at_call 9; (with_reducible refine cb2.mono ?_); rintro e Wb ⟨p', Hb, rfl, qb, hEb, hsb, hlb, hUb, hpl', hok', hno'⟩; clear cb2))
    replace r0 := cell_upd hUb KR.out.1 r0
    replace r1 := cell_upd hUb KR.out.1 r1
    replace s0 := cell_upd hUb KR.out.2.1 s0
    replace s1 := cell_upd hUb KR.out.2.1 s1
    replace s2 := cell_upd hUb KR.out.2.1 s2
    replace s3 := cell_upd hUb KR.out.2.1 s3
    replace fA := cells_upd hUb KR.out.2.2 zA fA
    replace zA := Nat.lt_of_lt_of_le zA hUb.size
    replace hx := hid (hx.out.ext hEb)
    replace hy := hid (hy.out.ext hEb)
    replace SL := hid (show sumH Hb ≤ 8 ∧ Hb.length ≤ 4 from ⟨by have := SL.out; omega, by have := SL.out; omega⟩)
    replace Q := hid qb
    have cS := hid (fun he : RA.e = 0 => same_res qb p p' RA ((HK.out.2 he).ext hEb) (hok' he))
    clear qb hEb hsb hlb hUb hpl' hok' hno' HK hrun
    go_upto_region 20 with (go_at_call 17; (with_reducible refine (cS.out (by simpa using hea)).mono ?_); rintro e Wc ⟨rfl, hBc⟩; (replace r0 := cell_keep hBc r0); (replace r1 := cell_keep hBc r1); (replace s0 := cell_keep hBc s0); (replace s1 := cell_keep hBc s1); (replace s2 := cell_keep hBc s2); (replace s3 := cell_keep hBc s3); (replace fA := cells_keep hBc zA fA); (replace zA := Nat.lt_of_lt_of_le zA hBc.size); (replace Q := hid (Q.out.below' hBc)); clear hBc)
    clear cS
    go_wp2
    rw [rounds_succ]
    have cb := bin_mulN Q.out x y a b (nw a i) (nd a u) (nw b j) (nd b v) hx.out hy.out (.slice (some ⟨rb, 0, none⟩) 2 2) [x, y] (words_of2 r0 r1 XY.out.1 XY.out.2) (by simp) (by have := SL.out; omega) (by have := SL.out; omega)
    rw [hRM.out] at cb
    go_upto_region 13 with (go_at_call 9; (with_reducible refine cb.mono ?_); rintro e Wa ⟨p, Ha, rfl, qa, hEa, hsa, hla, hUa, hpl, hok, hno⟩; clear cb)
    replace r0 := cell_upd hUa KR.out.1 r0
    replace r1 := cell_upd hUa KR.out.1 r1
    replace s0 := cell_upd hUa KR.out.2.1 s0
    replace s1 := cell_upd hUa KR.out.2.1 s1
    replace s2 := cell_upd hUa KR.out.2.1 s2
    replace s3 := cell_upd hUa KR.out.2.1 s3
    replace fA := cells_upd hUa KR.out.2.2 zA fA
    replace zA := Nat.lt_of_lt_of_le zA hUa.size
    replace hx := hid (hx.out.ext hEa)
    replace hy := hid (hy.out.ext hEa)
    replace SL := hid (show sumH Ha ≤ 10 ∧ Ha.length ≤ 5 from ⟨by have := SL.out; omega, by have := SL.out; omega⟩)
    replace Q := hid qa
    have HK := hid (And.intro hpl hok)
    clear qa hEa hsa hla hUa hpl hok hno
    obtain ⟨g, gc, Wv, hrun, hBv, hwv⟩ := app3 Wa rb x y p 34 r0 r1 XY.out.1 XY.out.2 HK.out.1
    replace r0 := cell_keep hBv r0
    replace r1 := cell_keep hBv r1
    replace s0 := cell_keep hBv s0
    replace s1 := cell_keep hBv s1
    replace s2 := cell_keep hBv s2
    replace s3 := cell_keep hBv s3
    replace fA := cells_keep hBv zA fA
    replace zA := Nat.lt_of_lt_of_le zA hBv.size
    replace Q := hid (Q.out.below' hBv)
    have cb2 := bin_mulN Q.out y x b a (nw b j) (nd b v) (nw a i) (nd a u) hy.out hx.out _ [x, y, p] hwv (by simp) (by have := SL.out; omega) (by have := SL.out; omega)
    rw [mulR_comm, hRM.out] at cb2
    clear hBv hwv
    go_upto_region 14 with (first | (at_builtin; refine Lib.wpList_append_run _ rfl (.tmp 82) (.tmp 84) 34 34 rfl _ _ (by simp [Act.eval]) (by simp [Act.eval]) _ _ hrun ?_) | (go_at_call 9; (with_reducible refine cb2.mono ?_); rintro e Wb ⟨p', Hb, rfl, qb, hEb, hsb, hlb, hUb, hpl', hok', hno'⟩; clear cb2))
    replace r0 := cell_upd hUb KR.out.1 r0
    replace r1 := cell_upd hUb KR.out.1 r1
    replace s0 := cell_upd hUb KR.out.2.1 s0
    replace s1 := cell_upd hUb KR.out.2.1 s1
    replace s2 := cell_upd hUb KR.out.2.1 s2
    replace s3 := cell_upd hUb KR.out.2.1 s3
    replace fA := cells_upd hUb KR.out.2.2 zA fA
    replace zA := Nat.lt_of_lt_of_le zA hUb.size
    replace hx := hid (hx.out.ext hEb)
    replace hy := hid (hy.out.ext hEb)
    replace SL := hid (show sumH Hb ≤ 12 ∧ Hb.length ≤ 6 from ⟨by have := SL.out; omega, by have := SL.out; omega⟩)
    replace Q := hid qb
    have cS := hid (fun he : RM.e = 0 => same_res qb p p' RM ((HK.out.2 he).ext hEb) (hok' he))
    clear qb hEb hsb hlb hUb hpl' hok' hno' HK hrun
    go_upto_region 20 with (go_at_call 17; (with_reducible refine (cS.out (by simpa using hem)).mono ?_); rintro e Wc ⟨rfl, hBc⟩; (replace r0 := cell_keep hBc r0); (replace r1 := cell_keep hBc r1); (replace s0 := cell_keep hBc s0); (replace s1 := cell_keep hBc s1); (replace s2 := cell_keep hBc s2); (replace s3 := cell_keep hBc s3); (replace fA := cells_keep hBc zA fA); (replace zA := Nat.lt_of_lt_of_le zA hBc.size); (replace Q := hid (Q.out.below' hBc)); clear hBc)
    clear cS
    go_wp2
    rw [rounds_succ]
    have cb := bin_eq Q.out x y a b (nw a i) (nd a u) (nw b j) (nd b v) hx.out hy.out (.slice (some ⟨rb, 0, none⟩) 2 2) [x, y] (words_of2 r0 r1 XY.out.1 XY.out.2) (by simp)
    rw [hE.out, HP.out.1] at cb
    go_upto_region 13 with (go_at_call 9; (with_reducible refine cb.mono ?_); rintro e Wa ⟨rfl, hBa⟩; clear cb)
    replace r0 := cell_keep hBa r0
    replace r1 := cell_keep hBa r1
    replace s0 := cell_keep hBa s0
    replace s1 := cell_keep hBa s1
    replace s2 := cell_keep hBa s2
    replace s3 := cell_keep hBa s3
    replace fA := cells_keep hBa zA fA
    replace zA := Nat.lt_of_lt_of_le zA hBa.size
    replace Q := hid (Q.out.below' hBa)
    obtain ⟨g, gc, Wv, hrun, hBv, hwv⟩ := app3 Wa rb x y p1 34 r0 r1 XY.out.1 XY.out.2 PL.out.1
    replace r0 := cell_keep hBv r0
    replace r1 := cell_keep hBv r1
    replace s0 := cell_keep hBv s0
    replace s1 := cell_keep hBv s1
    replace s2 := cell_keep hBv s2
    replace s3 := cell_keep hBv s3
    replace fA := cells_keep hBv zA fA
    replace zA := Nat.lt_of_lt_of_le zA hBv.size
    replace Q := hid (Q.out.below' hBv)
    have cb2 := bin_eq Q.out y x b a (nw b j) (nd b v) (nw a i) (nd a u) hy.out hx.out _ [x, y, p1] hwv (by simp)
    rw [equal_sym, hE.out, HP.out.1] at cb2
    clear hBv hwv hBa
    go_upto_region 14 with (first | (at_builtin; refine Lib.wpList_append_run _ rfl (.tmp 82) (.tmp 84) 34 34 rfl _ _ (by simp [Act.eval]) (by simp [Act.eval]) _ _ hrun ?_) | (go_at_call 9; (with_reducible refine cb2.mono ?_); rintro e Wb ⟨rfl, hBb⟩; clear cb2))
    replace r0 := cell_keep hBb r0
    replace r1 := cell_keep hBb r1
    replace s0 := cell_keep hBb s0
    replace s1 := cell_keep hBb s1
    replace s2 := cell_keep hBb s2
    replace s3 := cell_keep hBb s3
    replace fA := cells_keep hBb zA fA
    replace zA := Nat.lt_of_lt_of_le zA hBb.size
    replace Q := hid (Q.out.below' hBb)
    have cS := same_b Wb hb (E == true) p1 HP.out.1.symm
    clear hBb hrun
    go_upto_region 20 with (go_at_call 17; (with_reducible refine cS.mono ?_); rintro e Wc ⟨rfl, hBc⟩; (replace r0 := cell_keep hBc r0); (replace r1 := cell_keep hBc r1); (replace s0 := cell_keep hBc s0); (replace s1 := cell_keep hBc s1); (replace s2 := cell_keep hBc s2); (replace s3 := cell_keep hBc s3); (replace fA := cells_keep hBc zA fA); (replace zA := Nat.lt_of_lt_of_le zA hBc.size); (replace Q := hid (Q.out.below' hBc)); clear hBc)
    clear cS
    go_wp2
    rw [rounds_succ]
    have cb := bin_ne Q.out x y a b (nw a i) (nd a u) (nw b j) (nd b v) hx.out hy.out (.slice (some ⟨rb, 0, none⟩) 2 2) [x, y] (words_of2 r0 r1 XY.out.1 XY.out.2) (by simp)
    rw [hE.out, HP.out.2] at cb
    go_upto_region 13 with (go_at_call 9; (with_reducible refine cb.mono ?_); rintro e Wa ⟨rfl, hBa⟩; clear cb)
    replace r0 := cell_keep hBa r0
    replace r1 := cell_keep hBa r1
    replace s0 := cell_keep hBa s0
    replace s1 := cell_keep hBa s1
    replace s2 := cell_keep hBa s2
    replace s3 := cell_keep hBa s3
    replace fA := cells_keep hBa zA fA
    replace zA := Nat.lt_of_lt_of_le zA hBa.size
    replace Q := hid (Q.out.below' hBa)
    obtain ⟨g, gc, Wv, hrun, hBv, hwv⟩ := app3 Wa rb x y p2 34 r0 r1 XY.out.1 XY.out.2 PL.out.2
    replace r0 := cell_keep hBv r0
    replace r1 := cell_keep hBv r1
    replace s0 := cell_keep hBv s0
    replace s1 := cell_keep hBv s1
    replace s2 := cell_keep hBv s2
    replace s3 := cell_keep hBv s3
    replace fA := cells_keep hBv zA fA
    replace zA := Nat.lt_of_lt_of_le zA hBv.size
    replace Q := hid (Q.out.below' hBv)
    have cb2 := bin_ne Q.out y x b a (nw b j) (nd b v) (nw a i) (nd a u) hy.out hx.out _ [x, y, p2] hwv (by simp)
    rw [equal_sym, hE.out, HP.out.2] at cb2
    clear hBv hwv hBa
    go_upto_region 14 with (first | (at_builtin; refine Lib.wpList_append_run _ rfl (.tmp 82) (.tmp 84) 34 34 rfl _ _ (by simp [Act.eval]) (by simp [Act.eval]) _ _ hrun ?_) | (go_at_call 9; (with_reducible refine cb2.mono ?_); rintro e Wb ⟨rfl, hBb⟩; clear cb2))
    replace r0 := cell_keep hBb r0
    replace r1 := cell_keep hBb r1
    replace s0 := cell_keep hBb s0
    replace s1 := cell_keep hBb s1
    replace s2 := cell_keep hBb s2
    replace s3 := cell_keep hBb s3
    replace fA := cells_keep hBb zA fA
    replace zA := Nat.lt_of_lt_of_le zA hBb.size
    replace Q := hid (Q.out.below' hBb)
    have cS := same_b Wb hb (E == false) p2 HP.out.2.symm
    clear hBb hrun
    go_upto_region 20 with (go_at_call 17; (with_reducible refine cS.mono ?_); rintro e Wc ⟨rfl, hBc⟩; (replace r0 := cell_keep hBc r0); (replace r1 := cell_keep hBc r1); (replace s0 := cell_keep hBc s0); (replace s1 := cell_keep hBc s1); (replace s2 := cell_keep hBc s2); (replace s3 := cell_keep hBc s3); (replace fA := cells_keep hBc zA fA); (replace zA := Nat.lt_of_lt_of_le zA hBc.size); (replace Q := hid (Q.out.below' hBc)); clear hBc)
    clear cS
    go_wp2
    rw [rounds_succ]
    go_upto_region 21 with fail
    have cb := bin_eq Q.out x y a b (nw a i) (nd a u) (nw b j) (nd b v) hx.out hy.out (.slice (some ⟨rb, 0, none⟩) 2 2) [x, y] (words_of2 r0 r1 XY.out.1 XY.out.2) (by simp)
    rw [hE.out, HP.out.1] at cb
    go_upto_region 22 with (go_at_call 9; (with_reducible refine cb.mono ?_); rintro e Wa ⟨rfl, hBa⟩; clear cb)
    replace r0 := cell_keep hBa r0
    replace r1 := cell_keep hBa r1
    replace s0 := cell_keep hBa s0
    replace s1 := cell_keep hBa s1
    replace s2 := cell_keep hBa s2
    replace s3 := cell_keep hBa s3
    replace fA := cells_keep hBa zA fA
    replace zA := Nat.lt_of_lt_of_le zA hBa.size
    replace Q := hid (Q.out.below' hBa)
    clear hBa
    have cb := bin_ne Q.out x y a b (nw a i) (nd a u) (nw b j) (nd b v) hx.out hy.out (.slice (some ⟨rb, 0, none⟩) 2 2) [x, y] (words_of2 r0 r1 XY.out.1 XY.out.2) (by simp)
    rw [hE.out, HP.out.2] at cb
    go_upto_region 23 with (go_at_call 9; (with_reducible refine cb.mono ?_); rintro e Wb ⟨rfl, hBb⟩; clear cb)
    replace r0 := cell_keep hBb r0
    replace r1 := cell_keep hBb r1
    replace s0 := cell_keep hBb s0
    replace s1 := cell_keep hBb s1
    replace s2 := cell_keep hBb s2
    replace s3 := cell_keep hBb s3
    replace fA := cells_keep hBb zA fA
    replace zA := Nat.lt_of_lt_of_le zA hBb.size
    replace Q := hid (Q.out.below' hBb)
    clear hBb
    have cu := un_not Wb hb p1 (E == true) HP.out.1.symm (.slice (some ⟨rb, 0, none⟩) 2 2) [x, y] (words_of2 r0 r1 XY.out.1 XY.out.2) (by simp)
    go_upto_region 24 with (go_at_call 10; (with_reducible refine cu.mono ?_); rintro e Wc ⟨rfl, hBc⟩; clear cu)
    replace r0 := cell_keep hBc r0
    replace r1 := cell_keep hBc r1
    replace s0 := cell_keep hBc s0
    replace s1 := cell_keep hBc s1
    replace s2 := cell_keep hBc s2
    replace s3 := cell_keep hBc s3
    replace fA := cells_keep hBc zA fA
    replace zA := Nat.lt_of_lt_of_le zA hBc.size
    replace Q := hid (Q.out.below' hBc)
    clear hBc
    have cb := bin_eq Q.out x x a a (nw a i) (nd a u) (nw a i) (nd a u) hx.out hx.out (.slice (some ⟨rb, 0, none⟩) 2 2) [x, y] (words_of2 r0 r1 XY.out.1 XY.out.2) (by simp)
    rw [hS.out] at cb
    go_upto_region 25 with (go_at_call 9; (with_reducible refine cb.mono ?_); rintro e Wd ⟨rfl, hBd⟩; clear cb)
    replace r0 := cell_keep hBd r0
    replace r1 := cell_keep hBd r1
    replace s0 := cell_keep hBd s0
    replace s1 := cell_keep hBd s1
    replace s2 := cell_keep hBd s2
    replace s3 := cell_keep hBd s3
    replace fA := cells_keep hBd zA fA
    replace zA := Nat.lt_of_lt_of_le zA hBd.size
    replace Q := hid (Q.out.below' hBd)
    clear hBd
    have HB := hid Q.out.bel
    clear Q r0 r1 s0 s1 s2 s3 KR hx hy SL XY hRA hRM hE hS LAB PL HP HW
    cases a
    · have hN' : nan = Go.Proofs.YthgcdohndchdkaaGreatDoor.W.nanB u := hN
      clear hN
      subst hN'
      go_wp2_with (first | (go_at_call 15; (with_reducible refine (cNaN _).mono ?_); rintro e w' ⟨rfl, hw⟩; (have hw' := hw.symm); subst hw'; clear hw) | (go_at_call 14; (with_reducible refine (refFromBool_c _ _).mono ?_); rintro e w' ⟨rfl, hw⟩; (have hw' := hw.symm); subst hw'; clear hw) | (go_at_call 13; (with_reducible refine (awake10_c _).mono ?_); rintro e We ⟨rfl, hBe⟩))
      go_ret
      exact ⟨rfl, HB.out.trans (hBe.mono HB.out.size)⟩
    · have hN' : nan = false := hN
      clear hN
      subst hN'
      go_wp2_with (first | (go_at_call 14; (with_reducible refine (refFromBool_c _ _).mono ?_); rintro e w' ⟨rfl, hw⟩; (have hw' := hw.symm); subst hw'; clear hw) | (go_at_call 13; (with_reducible refine (awake10_c _).mono ?_); rintro e We ⟨rfl, hBe⟩))
      go_ret
      exact ⟨rfl, HB.out.trans (hBe.mono HB.out.size)⟩)
end Go.Proofs.YthgcdohndchdkaaGreatDoor.W.Nu
