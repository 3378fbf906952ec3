import Derived.Test.YtmeoonnofiicpaaS8iJ
import Derived.Test.YtmeoonnofiicpaaS8dJ
import Derived.Sort.CutIn
/- act: what is none of them; extents till one. -/
namespace Go.Proofs.Ytmeoonnofiicpaa.W.R5
open Go.ChangeShapes Go.WideShapes Go.RowKit Go.Shelf
set_option linter.unusedVariables false
set_option linter.unusedSimpArgs false
set_option maxRecDepth 100000 in
set_option maxHeartbeats 4000000 in
theorem act_none {W : World} {sb rb : Nat} (a : Si.A6) (hk : a.what < 1 ∨ 7 < a.what) : Calls Try.prog 7 #[(Value.pointer (some ⟨sb, 0, none⟩)), (Value.pointer (some ⟨rb, 0, none⟩)), (Value.agg #[.int .i64 a.what, .int .i64 a.n, .int .i64 a.id, .int .i64 a.off, .int .i64 a.wd, .int .u64 a.x])] W fun e w' => e = .returned (.bool true) ∧ Below W.heap.size W w' := by
  obtain ⟨q, n, id, off, wd, x⟩ := a
  simp only at hk ⊢
  have k1 : (q == 1) = false := by rw [beq_eq_false_iff_ne]; omega
  have k2 : (q == 2) = false := by rw [beq_eq_false_iff_ne]; omega
  have k3 : (q == 3) = false := by rw [beq_eq_false_iff_ne]; omega
  have k4 : (q == 4) = false := by rw [beq_eq_false_iff_ne]; omega
  have k5 : (q == 5) = false := by rw [beq_eq_false_iff_ne]; omega
  have k6 : (q == 6) = false := by rw [beq_eq_false_iff_ne]; omega
  have k7 : (q == 7) = false := by rw [beq_eq_false_iff_ne]; omega
  clear hk
  refine (callsIn_wide (n := 9)).1 ?_
  refine callsIn_of_wp_marks Try.func7 rfl trivial ?_ rfl
  refine wpIn_wide.2 ?_
  simp only [Try.ntmps7, List.size_toArray, List.length_cons, List.length_nil, Nat.reduceAdd, Nat.reduceSub, Array.replicate_succ, Array.replicate_zero, List.push_toArray, List.append_toArray, List.nil_append, List.cons_append]
  go_upto_region 1 with fail
  simp only [Nat.add_assoc, Nat.reduceAdd]
  obtain ⟨z3, d0, d1, d2, b3⟩ := chain3 W (.cells #[(Value.pointer (some ⟨rb, 0, none⟩))] 26) (.cells #[.int .i64 q, .int .i64 n, .int .i64 id, .int .i64 off, .int .i64 wd, .int .u64 x] 33) (.cells #[.bool false] 4)
  generalize (((W.alloc (.cells #[(Value.pointer (some ⟨rb, 0, none⟩))] 26)).alloc (.cells #[.int .i64 q, .int .i64 n, .int .i64 id, .int .i64 off, .int .i64 wd, .int .u64 x] 33)).alloc (.cells #[.bool false] 4)) = W3 at *
  have x0 : W3.cell? ⟨W.heap.size + 1, 0, none⟩ = some (.int .i64 q) := cell_of_row _ _ 0 _ _ _ d1
  have q2 : W3.cell? ⟨W.heap.size + 2, 0, none⟩ = some (.bool false) := cell_of_row _ _ 0 _ _ _ d2
  have z2 : W3.frozen? ⟨W.heap.size + 2, 0, none⟩ = false := by simp [World.frozen?, d2]
  have f2 := heap_set (c := [_]) d2 0 (.bool true)
  have F2 := hid (And.intro f2 b3)
  clear d0 d1 d2 b3 z3 f2
  go_wp2
  refine ⟨_, one_ret rfl _ _ (W.heap.size + 2) _ rfl F2.out.1, rfl, ?_⟩
  have uS : Upd (fun k => k = W.heap.size + 2) W3 (W3.setCell ⟨W.heap.size + 2, 0, none⟩ (.bool true)) := (Upd.refl (fun k => k = W.heap.size + 2) W3).setCell (p := ⟨W.heap.size + 2, 0, none⟩) (.inl rfl) _
  exact F2.out.2.trans (uS.below F2.out.2.size (fun k e => by omega))
/-- k of what is told has been counted -/
structure Ct (W W' : World) (sb rb : Nat) (a : Si.A6) (k : Nat) : Prop where
  bx : Bx W W' rb a
  c3 : W'.heap[W.heap.size + 3]? = some (.cells #[.int .i64 (k : Nat)] 3 (0, 0))
  c4 : W'.heap[W.heap.size + 4]? = some (.cells #[(Value.pointer (some ⟨sb, 0, none⟩))] 24 (0, 0))
  low : Below W.heap.size W W'
theorem Ct.on {W W' W'' : World} {sb rb k : Nat} {a : Si.A6} (h : Ct W W' sb rb a k) (hU : Upd (fun k => W.heap.size + 6 ≤ k) W' W'') : Ct W W'' sb rb a k := by
  have l4 := (Array.getElem?_eq_some_iff.1 h.c4).1
  exact ⟨h.bx.on (fun k h1 h2 => hU.block k (by omega) (by omega)), (hU.block _ (by omega) (by omega)).trans h.c3, (hU.block _ (by omega) (by omega)).trans h.c4, h.low.trans (hU.below h.low.size (fun k e => by omega))⟩
set_option maxRecDepth 100000 in
set_option maxHeartbeats 4000000 in
theorem act7_c {W : World} {sb rb B0 M R : Nat} {A : List (Option (List Nat))} {T : List Tr} {l : List En} {v : Value} (a : Si.A6) (hk : a.what = 7) (hS : Sd W sb A R T) (hR : Rs B0 W rb A M l v) : Calls Try.prog 7 #[(Value.pointer (some ⟨sb, 0, none⟩)), (Value.pointer (some ⟨rb, 0, none⟩)), (Value.agg #[.int .i64 a.what, .int .i64 a.n, .int .i64 a.id, .int .i64 a.off, .int .i64 a.wd, .int .u64 a.x])] W fun e w' => e = .returned (.bool true) ∧ Below W.heap.size W w' := by
  obtain ⟨q, n, id, off, wd, x⟩ := a
  simp only at hk ⊢
  subst hk
  obtain ⟨vo, vcap, hvr⟩ := slice_of (owns_base hR.row (b' := 0) (fun _ _ => Nat.zero_le _))
  subst hvr
  have hTn : T.length = l.length := by
    have e1 := hS.lie.cnt
    have e2 := congrArg List.length hR.is
    rw [List.length_map, refL_len] at e2
    omega
  have hl := hR.lt
  have HS := hid hS
  have HR := hid hR
  have HTN := hid hTn
  have cv := extents_c
  clear hS hR hTn
  refine (callsIn_wide (n := 9)).1 ?_
  refine callsIn_of_wp_marks Try.func7 rfl trivial ?_ rfl
  refine wpIn_wide.2 ?_
  simp only [Try.ntmps7, List.size_toArray, List.length_cons, List.length_nil, Nat.reduceAdd, Nat.reduceSub, Array.replicate_succ, Array.replicate_zero, List.push_toArray, List.append_toArray, List.nil_append, List.cons_append]
  go_upto_region 1 with fail
  simp only [Nat.add_assoc, Nat.reduceAdd]
  obtain ⟨z3, d0, d1, d2, b3⟩ := chain3 W (.cells #[(Value.pointer (some ⟨rb, 0, none⟩))] 26) (.cells #[.int .i64 7, .int .i64 n, .int .i64 id, .int .i64 off, .int .i64 wd, .int .u64 x] 33) (.cells #[.bool false] 4)
  generalize (((W.alloc (.cells #[(Value.pointer (some ⟨rb, 0, none⟩))] 26)).alloc (.cells #[.int .i64 7, .int .i64 n, .int .i64 id, .int .i64 off, .int .i64 wd, .int .u64 x] 33)).alloc (.cells #[.bool false] 4)) = W3 at *
  have x0 : W3.cell? ⟨W.heap.size + 1, 0, none⟩ = some (.int .i64 7) := cell_of_row _ _ 0 _ _ _ d1
  have D := hid (And.intro d0 (And.intro d1 (And.intro d2 (And.intro b3 z3))))
  clear d0 d1 d2 b3
  go_wp2_with (go_at_call 24; (with_reducible refine (cv _ _).mono ?_); rintro e w8 ⟨rfl, hw8⟩; (have hw' := hw8.symm); subst hw'; clear hw8)
  obtain ⟨d0, d1, d2, b3, z3⟩ := D.out
  have zA : (W3.alloc (.cells #[.int .i64 0] 3)).heap.size = W.heap.size + 4 := by rw [World.size_alloc, z3]
  have dA := World.alloc_heap_new W3 (.cells #[.int .i64 0] 3)
  have bA : Below W3.heap.size W3 (W3.alloc (.cells #[.int .i64 0] 3)) := (Below.refl _ _).alloc (Nat.le_refl _) _
  have dB := World.alloc_heap_new (W3.alloc (.cells #[.int .i64 0] 3)) (.cells #[(Value.pointer (some ⟨sb, 0, none⟩))] 24)
  have bB : Below (W3.alloc (.cells #[.int .i64 0] 3)).heap.size (W3.alloc (.cells #[.int .i64 0] 3)) ((W3.alloc (.cells #[.int .i64 0] 3)).alloc (.cells #[(Value.pointer (some ⟨sb, 0, none⟩))] 24)) := (Below.refl _ _).alloc (Nat.le_refl _) _
  have zB : ((W3.alloc (.cells #[.int .i64 0] 3)).alloc (.cells #[(Value.pointer (some ⟨sb, 0, none⟩))] 24)).heap.size = W.heap.size + 5 := by rw [World.size_alloc, zA]
  rw [z3] at dA
  rw [zA] at dB
  have bAB : Below W3.heap.size W3 ((W3.alloc (.cells #[.int .i64 0] 3)).alloc (.cells #[(Value.pointer (some ⟨sb, 0, none⟩))] 24)) := bA.trans (bB.mono bA.size)
  have ct : Ct W ((W3.alloc (.cells #[.int .i64 0] 3)).alloc (.cells #[(Value.pointer (some ⟨sb, 0, none⟩))] 24)) sb rb ⟨7, n, id, off, wd, x⟩ 0 :=
    ⟨⟨(bAB.block _ (by omega)).trans d0, (bAB.block _ (by omega)).trans d1, (bAB.block _ (by omega)).trans d2⟩, (bB.block _ (by omega)).trans dA, dB, b3.trans (bAB.mono (by omega))⟩
  have CT := hid ct
  have ZB := hid zB
  clear d0 d1 d2 b3 z3 zA dA bA dB bB zB bAB ct D cv x0
  generalize ((W3.alloc (.cells #[.int .i64 0] 3)).alloc (.cells #[(Value.pointer (some ⟨sb, 0, none⟩))] 24)) = W5 at *
  refine ext_law (sb := sb) T rfl (fun i D W' => (∀ k, ¬ D k) ∧ Ct W W' sb rb ⟨7, n, id, off, wd, x⟩ i) (fun c W' => c = .exit 3 ∧ ∃ k : Nat, 1 ≤ k ∧ k ≤ 1000 ∧ (k : Int) = n ∧ Ct W W' sb rb ⟨7, n, id, off, wd, x⟩ k) ?hL ?hI ?hIx ?hLx (fun _ => False) ⟨fun k e => e, CT.out⟩ ?body ?done ?stop
  case hL =>
    rintro i D W' ⟨h1, h2⟩
    exact ⟨⟨cell_of_row _ _ 0 _ _ _ h2.c4, HS.out.tell W' h2.low⟩, fun k e => absurd e (h1 k)⟩
  case hI =>
    rintro i D Wa Wb ⟨h1, h2⟩ hu
    exact ⟨h1, h2.on (hu.mono (fun k e => by rw [ZB.out] at e; omega))⟩
  case hIx =>
    rintro c Wa Wb ⟨h0, k, h1, h2, h3, h4⟩ hu
    exact ⟨h0, k, h1, h2, h3, h4.on (hu.mono (fun k e => by rw [ZB.out] at e; omega))⟩
  case hLx =>
    rintro c Wa ⟨h0, k, h1, h2, h3, h4⟩
    exact ⟨cell_of_row _ _ 0 _ _ _ h4.c4, HS.out.tell Wa h4.low⟩
  case body =>
    rintro L i hi D W' hLe ⟨h1, h2⟩ hs hr
    have hi9 : i < 1000 := by have := HTN.out; omega
    rw [ZB.out] at hs hLe
    have q3 : W'.cell? ⟨W.heap.size + 3, 0, none⟩ = some (.int .i64 (i : Int)) := cell_of_row _ _ 0 _ _ _ h2.c3
    have z3 : W'.frozen? ⟨W.heap.size + 3, 0, none⟩ = false := by simp [World.frozen?, h2.c3]
    have wi : IntKind.i64.wrap ((i : Int) + 1) = (i : Int) + 1 := by rw [IntKind.wrap_i64]; omega
    have u1 : Upd (fun k => k = W.heap.size + 3) W' (W'.setCell ⟨W.heap.size + 3, 0, none⟩ (.int .i64 ((i : Int) + 1))) := (Upd.refl (fun k => k = W.heap.size + 3) W').setCell (p := ⟨W.heap.size + 3, 0, none⟩) (.inl rfl) _
    have f1 := heap_set (c := [_]) h2.c3 0 (.int .i64 ((i : Int) + 1))
    have l4 := (Array.getElem?_eq_some_iff.1 h2.c4).1
    have c2 : Ct W (W'.setCell ⟨W.heap.size + 3, 0, none⟩ (.int .i64 ((i : Int) + 1))) sb rb ⟨7, n, id, off, wd, x⟩ (i + 1) :=
      ⟨h2.bx.on (fun k e1 e2 => u1.block k (by omega) (by omega)), f1, (u1.block _ (by omega) (by omega)).trans h2.c4, h2.low.trans (u1.below h2.low.size (fun k e => by omega))⟩
    have q3' : (W'.setCell ⟨W.heap.size + 3, 0, none⟩ (.int .i64 ((i : Int) + 1))).cell? ⟨W.heap.size + 3, 0, none⟩ = some (.int .i64 ((i : Int) + 1)) := cell_of_row _ _ 0 _ _ _ f1
    have q1' : (W'.setCell ⟨W.heap.size + 3, 0, none⟩ (.int .i64 ((i : Int) + 1))).cell? ⟨W.heap.size + 1, 1, none⟩ = some (.int .i64 n) := cell_of_row _ _ 1 _ _ _ c2.bx.c1
    have FN := hid (And.intro c2 (And.intro u1 (And.intro h1 (And.intro l4 (And.intro hLe hs)))))
    simp only [oneAct, List.setIfInBounds_toArray, List.set_cons_succ, List.set_cons_zero]
    have HI := hid hi9
    clear c2 u1 f1 l4 h1 h2 hr hs hLe hi hi9 hl CT
    by_cases hn : (i : Int) + 1 = n
    · have hb : (((i : Int) + 1) == n) = true := by rw [beq_iff_eq]; exact hn
      have HN := hid hn
      clear hn
      gi_wp2_with (simp only [Oper.semAt]; go_simp)
      obtain ⟨c2, u1, h1, l4, hLe, hs⟩ := FN.out
      refine ⟨⟨u1.block L (by omega) (by omega), u1.block _ (by rw [ZB.out]; omega) (by rw [ZB.out]; omega)⟩, fun k e1 e2 e3 => u1.block k e2 (by rw [ZB.out] at e1; omega), rfl, i + 1, by omega, HI.out, HN.out, c2⟩
    · have hb : (((i : Int) + 1) == n) = false := by rw [beq_eq_false_iff_ne]; exact hn
      clear hn
      gi_wp2_with (simp only [Oper.semAt]; go_simp)
      obtain ⟨c2, u1, h1, l4, hLe, hs⟩ := FN.out
      exact ⟨⟨u1.block L (by omega) (by omega), u1.block _ (by rw [ZB.out]; omega) (by rw [ZB.out]; omega)⟩, fun k e1 e2 e3 => u1.block k e2 (by rw [ZB.out] at e1; omega), D, ⟨h1, c2⟩, fun k e => .inl e⟩
  case done =>
    rintro D W9 ⟨h1, ct⟩ hD
    rw [HTN.out] at ct
    clear h1
    have bD : Below W9.heap.size W9 W9.drew := ⟨rfl, rfl, rfl, Nat.le_refl _, fun _ _ => rfl⟩
    have ctd := ct.on (W'' := W9.drew) (Upd.of_below bD)
    have s1 : W9.drew.cell? ⟨W.heap.size + 3, 0, none⟩ = some (.int .i64 (l.length : Nat)) := cell_of_row _ _ 0 _ _ _ ctd.c3
    have s2 : W9.drew.cell? ⟨W.heap.size, 0, none⟩ = some (Value.pointer (some ⟨rb, 0, none⟩)) := cell_of_row _ _ 0 _ _ _ ctd.bx.c0
    have s3 : W9.drew.cell? ⟨rb, 0, none⟩ = some (.slice vo l.length vcap) := cell_of_row _ _ 0 _ _ _ (HR.out.below ctd.low).top
    have s4 : W9.drew.cell? ⟨W.heap.size + 1, 1, none⟩ = some (.int .i64 n) := cell_of_row _ _ 1 _ _ _ ctd.bx.c1
    have t2 : W9.drew.cell? ⟨W.heap.size + 2, 0, none⟩ = some (.bool false) := cell_of_row _ _ 0 _ _ _ ctd.bx.c2
    have z2 : W9.drew.frozen? ⟨W.heap.size + 2, 0, none⟩ = false := by simp [World.frozen?, ctd.bx.c2]
    have hDd : W9.drew.heap[W5.heap.size]? = some (.deferred (some [])) := hD
    have hrb : rb < W.heap.size := (HR.out.blk_lt rb (.inl rfl)).2
    have l4 : W.heap.size + 4 < W9.drew.heap.size := (Array.getElem?_eq_some_iff.1 ctd.c4).1
    have FD := hid (And.intro ctd (And.intro hDd (And.intro hrb l4)))
    have hS : W9.drew.cell? ⟨W.heap.size + 3, 0, none⟩ = some (.int .i64 (l.length : Nat)) ∧ W9.drew.cell? ⟨W.heap.size, 0, none⟩ = some (Value.pointer (some ⟨rb, 0, none⟩)) ∧ W9.drew.cell? ⟨rb, 0, none⟩ = some (.slice vo l.length vcap) ∧ W9.drew.cell? ⟨W.heap.size + 1, 1, none⟩ = some (.int .i64 n) := ⟨s1, s2, s3, s4⟩
    clear bD ctd ct s1 s2 s3 s4 hDd hD hrb l4 CT HR HS HTN hl
    generalize l.length = m at *
    go_wp2
    refine plain_anyS (S := fun w' => w'.cell? ⟨W.heap.size + 3, 0, none⟩ = some (.int .i64 (m : Nat)) ∧ w'.cell? ⟨W.heap.size, 0, none⟩ = some (Value.pointer (some ⟨rb, 0, none⟩)) ∧ w'.cell? ⟨rb, 0, none⟩ = some (.slice vo m vcap) ∧ w'.cell? ⟨W.heap.size + 1, 1, none⟩ = some (.int .i64 n)) (by kernel_rfl) ?_
    generalize W9.drew = Wd at *
    (refine anyS_take (i := 0) (v := ?_) rfl (by kernel_rfl) (by kernel_rfl) (by kernel_rfl) (fun _ _ _ h => by cases h.1) (Or.inl ⟨by kernel_rfl, ?_⟩) hS ?_); rotate_left; (focus (intro w' hSw; obtain ⟨q1, q2, q3, q4⟩ := hSw; go_simp; (try with_reducible rfl))); (try simp only [Act.put, List.getElem_toArray, List.getElem_cons_zero, List.getElem_cons_succ, List.setIfInBounds_toArray, List.set_cons_zero, List.set_cons_succ])
    (refine anyS_take (i := 1) (v := ?_) rfl (by kernel_rfl) (by kernel_rfl) (by kernel_rfl) (fun _ _ _ h => by cases h.1) (Or.inl ⟨by kernel_rfl, ?_⟩) hS ?_); rotate_left; (focus (intro w' hSw; obtain ⟨q1, q2, q3, q4⟩ := hSw; go_simp; (try with_reducible rfl))); (try simp only [Act.put, List.getElem_toArray, List.getElem_cons_zero, List.getElem_cons_succ, List.setIfInBounds_toArray, List.set_cons_zero, List.set_cons_succ])
    (refine anyS_take (i := 2) (v := ?_) rfl (by kernel_rfl) (by kernel_rfl) (by kernel_rfl) (fun _ _ _ h => by cases h.1) (Or.inl ⟨by kernel_rfl, ?_⟩) hS ?_); rotate_left; (focus (intro w' hSw; obtain ⟨q1, q2, q3, q4⟩ := hSw; go_simp; (try with_reducible rfl))); (try simp only [Act.put, List.getElem_toArray, List.getElem_cons_zero, List.getElem_cons_succ, List.setIfInBounds_toArray, List.set_cons_zero, List.set_cons_succ])
    (refine anyS_take (i := 3) (v := ?_) rfl (by kernel_rfl) (by kernel_rfl) (by kernel_rfl) (fun _ _ _ h => by cases h.1) (Or.inl ⟨by kernel_rfl, ?_⟩) hS ?_); rotate_left; (focus (intro w' hSw; obtain ⟨q1, q2, q3, q4⟩ := hSw; go_simp; (try with_reducible rfl))); (try simp only [Act.put, List.getElem_toArray, List.getElem_cons_zero, List.getElem_cons_succ, List.setIfInBounds_toArray, List.set_cons_zero, List.set_cons_succ])
    (refine anyS_take (i := 4) (v := ?_) rfl (by kernel_rfl) (by kernel_rfl) (by kernel_rfl) (fun _ _ _ h => by cases h.1) (Or.inl ⟨by kernel_rfl, ?_⟩) hS ?_); rotate_left; (focus (intro w' hSw; obtain ⟨q1, q2, q3, q4⟩ := hSw; go_simp; (try with_reducible rfl))); (try simp only [Act.put, List.getElem_toArray, List.getElem_cons_zero, List.getElem_cons_succ, List.setIfInBounds_toArray, List.set_cons_zero, List.set_cons_succ])
    (refine anyS_take (i := 5) (v := ?_) rfl (by kernel_rfl) (by kernel_rfl) (by kernel_rfl) (fun _ _ _ h => by cases h.1) (Or.inl ⟨by kernel_rfl, ?_⟩) hS ?_); rotate_left; (focus (intro w' hSw; obtain ⟨q1, q2, q3, q4⟩ := hSw; go_simp; (try with_reducible rfl))); (try simp only [Act.put, List.getElem_toArray, List.getElem_cons_zero, List.getElem_cons_succ, List.setIfInBounds_toArray, List.set_cons_zero, List.set_cons_succ])
    (refine anyS_take (i := 6) (v := ?_) rfl (by kernel_rfl) (by kernel_rfl) (by kernel_rfl) (fun _ _ _ h => by cases h.1) (Or.inl ⟨by kernel_rfl, ?_⟩) hS ?_); rotate_left; (focus (intro w' hSw; obtain ⟨q1, q2, q3, q4⟩ := hSw; go_simp; (try with_reducible rfl))); (try simp only [Act.put, List.getElem_toArray, List.getElem_cons_zero, List.getElem_cons_succ, List.setIfInBounds_toArray, List.set_cons_zero, List.set_cons_succ])
    (refine anyS_take (i := 7) (v := ?_) rfl (by kernel_rfl) (by kernel_rfl) (by kernel_rfl) (fun _ _ _ h => by cases h.1) (Or.inl ⟨by kernel_rfl, ?_⟩) hS ?_); rotate_left; (focus (intro w' hSw; obtain ⟨q1, q2, q3, q4⟩ := hSw; go_simp; (try with_reducible rfl))); (try simp only [Act.put, List.getElem_toArray, List.getElem_cons_zero, List.getElem_cons_succ, List.setIfInBounds_toArray, List.set_cons_zero, List.set_cons_succ])
    (refine anyS_take (i := 8) (v := undef) rfl (by kernel_rfl) (by kernel_rfl) (by kernel_rfl) (fun _ _ _ h => by cases h.1) (Or.inr ⟨by kernel_rfl, rfl⟩) hS ?_); (try simp only [Act.put, List.getElem_toArray, List.getElem_cons_zero, List.getElem_cons_succ, List.setIfInBounds_toArray, List.set_cons_zero, List.set_cons_succ])
    (refine anyS_take (i := 9) (v := undef) rfl (by kernel_rfl) (by kernel_rfl) (by kernel_rfl) (fun _ _ _ h => by cases h.1) (Or.inr ⟨by kernel_rfl, rfl⟩) hS ?_); (try simp only [Act.put, List.getElem_toArray, List.getElem_cons_zero, List.getElem_cons_succ, List.setIfInBounds_toArray, List.set_cons_zero, List.set_cons_succ])
    (refine anyS_take (i := 10) (v := undef) rfl (by kernel_rfl) (by kernel_rfl) (by kernel_rfl) (fun _ _ _ h => by cases h.1) (Or.inr ⟨by kernel_rfl, rfl⟩) hS ?_); (try simp only [Act.put, List.getElem_toArray, List.getElem_cons_zero, List.getElem_cons_succ, List.setIfInBounds_toArray, List.set_cons_zero, List.set_cons_succ])
    (refine anyS_take (i := 11) (v := undef) rfl (by kernel_rfl) (by kernel_rfl) (by kernel_rfl) (fun _ _ _ h => by cases h.1) (Or.inr ⟨by kernel_rfl, rfl⟩) hS ?_); (try simp only [Act.put, List.getElem_toArray, List.getElem_cons_zero, List.getElem_cons_succ, List.setIfInBounds_toArray, List.set_cons_zero, List.set_cons_succ])
    (refine anyS_take (i := 12) (v := undef) rfl (by kernel_rfl) (by kernel_rfl) (by kernel_rfl) (fun _ _ _ h => by cases h.1) (Or.inr ⟨by kernel_rfl, rfl⟩) hS ?_); (try simp only [Act.put, List.getElem_toArray, List.getElem_cons_zero, List.getElem_cons_succ, List.setIfInBounds_toArray, List.set_cons_zero, List.set_cons_succ])
    (refine anyS_take (i := 13) (v := undef) rfl (by kernel_rfl) (by kernel_rfl) (by kernel_rfl) (fun _ _ _ h => by cases h.1) (Or.inr ⟨by kernel_rfl, rfl⟩) hS ?_); (try simp only [Act.put, List.getElem_toArray, List.getElem_cons_zero, List.getElem_cons_succ, List.setIfInBounds_toArray, List.set_cons_zero, List.set_cons_succ])
    (refine anyS_take (i := 14) (v := undef) rfl (by kernel_rfl) (by kernel_rfl) (by kernel_rfl) (fun _ _ _ h => by cases h.1) (Or.inr ⟨by kernel_rfl, rfl⟩) hS ?_); (try simp only [Act.put, List.getElem_toArray, List.getElem_cons_zero, List.getElem_cons_succ, List.setIfInBounds_toArray, List.set_cons_zero, List.set_cons_succ])
    (refine anyS_take (i := 15) (v := undef) rfl (by kernel_rfl) (by kernel_rfl) (by kernel_rfl) (fun _ _ _ h => by cases h.1) (Or.inr ⟨by kernel_rfl, rfl⟩) hS ?_); (try simp only [Act.put, List.getElem_toArray, List.getElem_cons_zero, List.getElem_cons_succ, List.setIfInBounds_toArray, List.set_cons_zero, List.set_cons_succ])
    (refine anyS_take (i := 16) (v := undef) rfl (by kernel_rfl) (by kernel_rfl) (by kernel_rfl) (fun _ _ _ h => by cases h.1) (Or.inr ⟨by kernel_rfl, rfl⟩) hS ?_); (try simp only [Act.put, List.getElem_toArray, List.getElem_cons_zero, List.getElem_cons_succ, List.setIfInBounds_toArray, List.set_cons_zero, List.set_cons_succ])
    (refine anyS_take (i := 17) (v := ?_) rfl (by kernel_rfl) (by kernel_rfl) (by kernel_rfl) (fun _ _ _ h => by cases h.1) (Or.inl ⟨by kernel_rfl, ?_⟩) hS ?_); rotate_left; (focus (intro w' hSw; obtain ⟨q1, q2, q3, q4⟩ := hSw; go_simp; (try with_reducible rfl))); (try simp only [Act.put, List.getElem_toArray, List.getElem_cons_zero, List.getElem_cons_succ, List.setIfInBounds_toArray, List.set_cons_zero, List.set_cons_succ])
    refine anyS_one (i := 18) (by kernel_rfl) rfl (by kernel_rfl) (fun K hK => ?_)
    go_simp
    obtain ⟨ctd, hDd, hrb, l4⟩ := FD.out
    have uS : Upd (fun k => k = W.heap.size + 2) Wd (Wd.setCell ⟨W.heap.size + 2, 0, none⟩ (.bool true)) := (Upd.refl (fun k => k = W.heap.size + 2) Wd).setCell (p := ⟨W.heap.size + 2, 0, none⟩) (.inl rfl) _
    have ck : ∀ k j : Nat, k < Wd.heap.size → k ≠ W.heap.size + 2 → (Wd.setCell ⟨W.heap.size + 2, 0, none⟩ (.bool true)).cell? ⟨k, j, none⟩ = Wd.cell? ⟨k, j, none⟩ := fun k j e1 e2 => World.cell?_of_block (uS.block k e1 e2)
    refine hK _ _ ⟨⟨(ck _ 0 (by omega) (by omega)).trans hS.1, (ck _ 0 (by omega) (by omega)).trans hS.2.1, (ck rb 0 (by omega) (by omega)).trans hS.2.2.1, (ck _ 1 (by omega) (by omega)).trans hS.2.2.2⟩, ?_⟩
    have f2 := heap_set (c := [_]) ctd.bx.c2 0 (.bool true)
    have hz5 := ZB.out
    have hlt := (Array.getElem?_eq_some_iff.1 hDd).1
    have hDF := (uS.block W5.heap.size hlt (by omega)).trans hDd
    have bF := ctd.low.trans (uS.below ctd.low.size (fun k e => by omega))
    have FF := hid (And.intro f2 (And.intro hDF bF))
    clear hK K ck uS hS f2 hDF bF ctd hDd hlt t2 z2
    (try simp only [Act.put, List.getElem_toArray, List.getElem_cons_zero, List.getElem_cons_succ, List.setIfInBounds_toArray, List.set_cons_zero, List.set_cons_succ])
    refine anyS_done (by kernel_rfl) ⟨rfl, ?_⟩ _
    go_wp2
    obtain ⟨f2, hDF, bF⟩ := FF.out
    generalize (Wd.setCell ⟨W.heap.size + 2, 0, none⟩ (.bool true)) = Fw at *
    refine ⟨by simp, .inl ⟨_, _, rfl, run_takeDeferred hDF, ?_⟩⟩
    have uP : Upd (fun k => k = W5.heap.size) Fw (Fw.putObj W5.heap.size (.deferred none)) := upd_put (S := fun k => k = W5.heap.size) rfl _
    have g2 := (uP.block (W.heap.size + 2) (Array.getElem?_eq_some_iff.1 f2).1 (by omega)).trans f2
    exact ⟨_, one_ret rfl _ _ (W.heap.size + 2) _ rfl g2, rfl, bF.trans (uP.below bF.size (fun k e => by omega))⟩
  case stop =>
    rintro c W9 ⟨rfl, k, hk1, hk9, hkn, ct⟩ hD
    subst hkn
    by_cases hkl : k = l.length
    · subst hkl
      clear hk1 hk9
      generalize hzz : ((l.length : Nat) : Int) = zz at ct
      have HZZ := hid hzz
      clear hzz
      have bD : Below W9.heap.size W9 W9.drew := ⟨rfl, rfl, rfl, Nat.le_refl _, fun _ _ => rfl⟩
      have ctd := ct.on (W'' := W9.drew) (Upd.of_below bD)
      have s1 : W9.drew.cell? ⟨W.heap.size + 3, 0, none⟩ = some (.int .i64 (l.length : Nat)) := cell_of_row _ _ 0 _ _ _ ctd.c3
      have s2 : W9.drew.cell? ⟨W.heap.size, 0, none⟩ = some (Value.pointer (some ⟨rb, 0, none⟩)) := cell_of_row _ _ 0 _ _ _ ctd.bx.c0
      have s3 : W9.drew.cell? ⟨rb, 0, none⟩ = some (.slice vo l.length vcap) := cell_of_row _ _ 0 _ _ _ (HR.out.below ctd.low).top
      have s4 : W9.drew.cell? ⟨W.heap.size + 1, 1, none⟩ = some (.int .i64 zz) := cell_of_row _ _ 1 _ _ _ ctd.bx.c1
      have t2 : W9.drew.cell? ⟨W.heap.size + 2, 0, none⟩ = some (.bool false) := cell_of_row _ _ 0 _ _ _ ctd.bx.c2
      have z2 : W9.drew.frozen? ⟨W.heap.size + 2, 0, none⟩ = false := by simp [World.frozen?, ctd.bx.c2]
      have hDd : W9.drew.heap[W5.heap.size]? = some (.deferred (some [])) := hD
      have hrb : rb < W.heap.size := (HR.out.blk_lt rb (.inl rfl)).2
      have l4 : W.heap.size + 4 < W9.drew.heap.size := (Array.getElem?_eq_some_iff.1 ctd.c4).1
      have FD := hid (And.intro ctd (And.intro hDd (And.intro hrb l4)))
      have hS : W9.drew.cell? ⟨W.heap.size + 3, 0, none⟩ = some (.int .i64 (l.length : Nat)) ∧ W9.drew.cell? ⟨W.heap.size, 0, none⟩ = some (Value.pointer (some ⟨rb, 0, none⟩)) ∧ W9.drew.cell? ⟨rb, 0, none⟩ = some (.slice vo l.length vcap) ∧ W9.drew.cell? ⟨W.heap.size + 1, 1, none⟩ = some (.int .i64 zz) := ⟨s1, s2, s3, s4⟩
      clear bD ctd ct s1 s2 s3 s4 hDd hD hrb l4 CT HR HS HTN hl
      generalize l.length = m at *
      go_wp2
      refine plain_anyS (S := fun w' => w'.cell? ⟨W.heap.size + 3, 0, none⟩ = some (.int .i64 (m : Nat)) ∧ w'.cell? ⟨W.heap.size, 0, none⟩ = some (Value.pointer (some ⟨rb, 0, none⟩)) ∧ w'.cell? ⟨rb, 0, none⟩ = some (.slice vo m vcap) ∧ w'.cell? ⟨W.heap.size + 1, 1, none⟩ = some (.int .i64 zz)) (by kernel_rfl) ?_
      generalize W9.drew = Wd at *
      (refine anyS_take (i := 0) (v := ?_) rfl (by kernel_rfl) (by kernel_rfl) (by kernel_rfl) (fun _ _ _ h => by cases h.1) (Or.inl ⟨by kernel_rfl, ?_⟩) hS ?_); rotate_left; (focus (intro w' hSw; obtain ⟨q1, q2, q3, q4⟩ := hSw; go_simp; (try with_reducible rfl))); (try simp only [Act.put, List.getElem_toArray, List.getElem_cons_zero, List.getElem_cons_succ, List.setIfInBounds_toArray, List.set_cons_zero, List.set_cons_succ])
      (refine anyS_take (i := 1) (v := ?_) rfl (by kernel_rfl) (by kernel_rfl) (by kernel_rfl) (fun _ _ _ h => by cases h.1) (Or.inl ⟨by kernel_rfl, ?_⟩) hS ?_); rotate_left; (focus (intro w' hSw; obtain ⟨q1, q2, q3, q4⟩ := hSw; go_simp; (try with_reducible rfl))); (try simp only [Act.put, List.getElem_toArray, List.getElem_cons_zero, List.getElem_cons_succ, List.setIfInBounds_toArray, List.set_cons_zero, List.set_cons_succ])
      (refine anyS_take (i := 2) (v := ?_) rfl (by kernel_rfl) (by kernel_rfl) (by kernel_rfl) (fun _ _ _ h => by cases h.1) (Or.inl ⟨by kernel_rfl, ?_⟩) hS ?_); rotate_left; (focus (intro w' hSw; obtain ⟨q1, q2, q3, q4⟩ := hSw; go_simp; (try with_reducible rfl))); (try simp only [Act.put, List.getElem_toArray, List.getElem_cons_zero, List.getElem_cons_succ, List.setIfInBounds_toArray, List.set_cons_zero, List.set_cons_succ])
      (refine anyS_take (i := 3) (v := ?_) rfl (by kernel_rfl) (by kernel_rfl) (by kernel_rfl) (fun _ _ _ h => by cases h.1) (Or.inl ⟨by kernel_rfl, ?_⟩) hS ?_); rotate_left; (focus (intro w' hSw; obtain ⟨q1, q2, q3, q4⟩ := hSw; go_simp; (try with_reducible rfl))); (try simp only [Act.put, List.getElem_toArray, List.getElem_cons_zero, List.getElem_cons_succ, List.setIfInBounds_toArray, List.set_cons_zero, List.set_cons_succ])
      (refine anyS_take (i := 4) (v := ?_) rfl (by kernel_rfl) (by kernel_rfl) (by kernel_rfl) (fun _ _ _ h => by cases h.1) (Or.inl ⟨by kernel_rfl, ?_⟩) hS ?_); rotate_left; (focus (intro w' hSw; obtain ⟨q1, q2, q3, q4⟩ := hSw; go_simp; (try with_reducible rfl))); (try simp only [Act.put, List.getElem_toArray, List.getElem_cons_zero, List.getElem_cons_succ, List.setIfInBounds_toArray, List.set_cons_zero, List.set_cons_succ])
      (refine anyS_take (i := 5) (v := ?_) rfl (by kernel_rfl) (by kernel_rfl) (by kernel_rfl) (fun _ _ _ h => by cases h.1) (Or.inl ⟨by kernel_rfl, ?_⟩) hS ?_); rotate_left; (focus (intro w' hSw; obtain ⟨q1, q2, q3, q4⟩ := hSw; go_simp; (try with_reducible rfl))); (try simp only [Act.put, List.getElem_toArray, List.getElem_cons_zero, List.getElem_cons_succ, List.setIfInBounds_toArray, List.set_cons_zero, List.set_cons_succ])
      (refine anyS_take (i := 6) (v := ?_) rfl (by kernel_rfl) (by kernel_rfl) (by kernel_rfl) (fun _ _ _ h => by cases h.1) (Or.inl ⟨by kernel_rfl, ?_⟩) hS ?_); rotate_left; (focus (intro w' hSw; obtain ⟨q1, q2, q3, q4⟩ := hSw; go_simp; (try with_reducible rfl))); (try simp only [Act.put, List.getElem_toArray, List.getElem_cons_zero, List.getElem_cons_succ, List.setIfInBounds_toArray, List.set_cons_zero, List.set_cons_succ])
      (refine anyS_take (i := 7) (v := ?_) rfl (by kernel_rfl) (by kernel_rfl) (by kernel_rfl) (fun _ _ _ h => by cases h.1) (Or.inl ⟨by kernel_rfl, ?_⟩) hS ?_); rotate_left; (focus (intro w' hSw; obtain ⟨q1, q2, q3, q4⟩ := hSw; go_simp; (try with_reducible rfl))); (try simp only [Act.put, List.getElem_toArray, List.getElem_cons_zero, List.getElem_cons_succ, List.setIfInBounds_toArray, List.set_cons_zero, List.set_cons_succ])
      (refine anyS_take (i := 8) (v := undef) rfl (by kernel_rfl) (by kernel_rfl) (by kernel_rfl) (fun _ _ _ h => by cases h.1) (Or.inr ⟨by kernel_rfl, rfl⟩) hS ?_); (try simp only [Act.put, List.getElem_toArray, List.getElem_cons_zero, List.getElem_cons_succ, List.setIfInBounds_toArray, List.set_cons_zero, List.set_cons_succ])
      (refine anyS_take (i := 9) (v := undef) rfl (by kernel_rfl) (by kernel_rfl) (by kernel_rfl) (fun _ _ _ h => by cases h.1) (Or.inr ⟨by kernel_rfl, rfl⟩) hS ?_); (try simp only [Act.put, List.getElem_toArray, List.getElem_cons_zero, List.getElem_cons_succ, List.setIfInBounds_toArray, List.set_cons_zero, List.set_cons_succ])
      (refine anyS_take (i := 10) (v := undef) rfl (by kernel_rfl) (by kernel_rfl) (by kernel_rfl) (fun _ _ _ h => by cases h.1) (Or.inr ⟨by kernel_rfl, rfl⟩) hS ?_); (try simp only [Act.put, List.getElem_toArray, List.getElem_cons_zero, List.getElem_cons_succ, List.setIfInBounds_toArray, List.set_cons_zero, List.set_cons_succ])
      (refine anyS_take (i := 11) (v := undef) rfl (by kernel_rfl) (by kernel_rfl) (by kernel_rfl) (fun _ _ _ h => by cases h.1) (Or.inr ⟨by kernel_rfl, rfl⟩) hS ?_); (try simp only [Act.put, List.getElem_toArray, List.getElem_cons_zero, List.getElem_cons_succ, List.setIfInBounds_toArray, List.set_cons_zero, List.set_cons_succ])
      (refine anyS_take (i := 12) (v := undef) rfl (by kernel_rfl) (by kernel_rfl) (by kernel_rfl) (fun _ _ _ h => by cases h.1) (Or.inr ⟨by kernel_rfl, rfl⟩) hS ?_); (try simp only [Act.put, List.getElem_toArray, List.getElem_cons_zero, List.getElem_cons_succ, List.setIfInBounds_toArray, List.set_cons_zero, List.set_cons_succ])
      (refine anyS_take (i := 13) (v := undef) rfl (by kernel_rfl) (by kernel_rfl) (by kernel_rfl) (fun _ _ _ h => by cases h.1) (Or.inr ⟨by kernel_rfl, rfl⟩) hS ?_); (try simp only [Act.put, List.getElem_toArray, List.getElem_cons_zero, List.getElem_cons_succ, List.setIfInBounds_toArray, List.set_cons_zero, List.set_cons_succ])
      (refine anyS_take (i := 14) (v := undef) rfl (by kernel_rfl) (by kernel_rfl) (by kernel_rfl) (fun _ _ _ h => by cases h.1) (Or.inr ⟨by kernel_rfl, rfl⟩) hS ?_); (try simp only [Act.put, List.getElem_toArray, List.getElem_cons_zero, List.getElem_cons_succ, List.setIfInBounds_toArray, List.set_cons_zero, List.set_cons_succ])
      (refine anyS_take (i := 15) (v := undef) rfl (by kernel_rfl) (by kernel_rfl) (by kernel_rfl) (fun _ _ _ h => by cases h.1) (Or.inr ⟨by kernel_rfl, rfl⟩) hS ?_); (try simp only [Act.put, List.getElem_toArray, List.getElem_cons_zero, List.getElem_cons_succ, List.setIfInBounds_toArray, List.set_cons_zero, List.set_cons_succ])
      (refine anyS_take (i := 16) (v := undef) rfl (by kernel_rfl) (by kernel_rfl) (by kernel_rfl) (fun _ _ _ h => by cases h.1) (Or.inr ⟨by kernel_rfl, rfl⟩) hS ?_); (try simp only [Act.put, List.getElem_toArray, List.getElem_cons_zero, List.getElem_cons_succ, List.setIfInBounds_toArray, List.set_cons_zero, List.set_cons_succ])
      (refine anyS_take (i := 17) (v := ?_) rfl (by kernel_rfl) (by kernel_rfl) (by kernel_rfl) (fun _ _ _ h => by cases h.1) (Or.inl ⟨by kernel_rfl, ?_⟩) hS ?_); rotate_left; (focus (intro w' hSw; obtain ⟨q1, q2, q3, q4⟩ := hSw; go_simp; (try with_reducible rfl))); (try simp only [Act.put, List.getElem_toArray, List.getElem_cons_zero, List.getElem_cons_succ, List.setIfInBounds_toArray, List.set_cons_zero, List.set_cons_succ])
      refine anyS_one (i := 18) (by kernel_rfl) rfl (by kernel_rfl) (fun K hK => ?_)
      go_simp
      obtain ⟨ctd, hDd, hrb, l4⟩ := FD.out
      have uS : Upd (fun k => k = W.heap.size + 2) Wd (Wd.setCell ⟨W.heap.size + 2, 0, none⟩ (.bool true)) := (Upd.refl (fun k => k = W.heap.size + 2) Wd).setCell (p := ⟨W.heap.size + 2, 0, none⟩) (.inl rfl) _
      have ck : ∀ k j : Nat, k < Wd.heap.size → k ≠ W.heap.size + 2 → (Wd.setCell ⟨W.heap.size + 2, 0, none⟩ (.bool true)).cell? ⟨k, j, none⟩ = Wd.cell? ⟨k, j, none⟩ := fun k j e1 e2 => World.cell?_of_block (uS.block k e1 e2)
      refine hK _ _ ⟨⟨(ck _ 0 (by omega) (by omega)).trans hS.1, (ck _ 0 (by omega) (by omega)).trans hS.2.1, (ck rb 0 (by omega) (by omega)).trans hS.2.2.1, (ck _ 1 (by omega) (by omega)).trans hS.2.2.2⟩, ?_⟩
      have f2 := heap_set (c := [_]) ctd.bx.c2 0 (.bool true)
      have hz5 := ZB.out
      have hlt := (Array.getElem?_eq_some_iff.1 hDd).1
      have hDF := (uS.block W5.heap.size hlt (by omega)).trans hDd
      have bF := ctd.low.trans (uS.below ctd.low.size (fun k e => by omega))
      have FF := hid (And.intro f2 (And.intro hDF bF))
      clear hK K ck uS hS f2 hDF bF ctd hDd hlt t2 z2
      (try simp only [Act.put, List.getElem_toArray, List.getElem_cons_zero, List.getElem_cons_succ, List.setIfInBounds_toArray, List.set_cons_zero, List.set_cons_succ])
      refine anyS_done (by kernel_rfl) ⟨rfl, ?_⟩ _
      go_wp2
      obtain ⟨f2, hDF, bF⟩ := FF.out
      generalize (Wd.setCell ⟨W.heap.size + 2, 0, none⟩ (.bool true)) = Fw at *
      refine ⟨by simp, .inl ⟨_, _, rfl, run_takeDeferred hDF, ?_⟩⟩
      have uP : Upd (fun k => k = W5.heap.size) Fw (Fw.putObj W5.heap.size (.deferred none)) := upd_put (S := fun k => k = W5.heap.size) rfl _
      have g2 := (uP.block (W.heap.size + 2) (Array.getElem?_eq_some_iff.1 f2).1 (by omega)).trans f2
      exact ⟨_, one_ret rfl _ _ (W.heap.size + 2) _ rfl g2, rfl, bF.trans (uP.below bF.size (fun k e => by omega))⟩
    · have hb : ((k : Int) == ((l.length : Nat) : Int)) = false := by rw [beq_eq_false_iff_ne]; omega
      have hk1' : (k : Int) ≥ 1 := by omega
      have bD : Below W9.heap.size W9 W9.drew := ⟨rfl, rfl, rfl, Nat.le_refl _, fun _ _ => rfl⟩
      have ctd := ct.on (W'' := W9.drew) (Upd.of_below bD)
      have s1 : W9.drew.cell? ⟨W.heap.size + 3, 0, none⟩ = some (.int .i64 (k : Nat)) := cell_of_row _ _ 0 _ _ _ ctd.c3
      have s2 : W9.drew.cell? ⟨W.heap.size, 0, none⟩ = some (Value.pointer (some ⟨rb, 0, none⟩)) := cell_of_row _ _ 0 _ _ _ ctd.bx.c0
      have s3 : W9.drew.cell? ⟨rb, 0, none⟩ = some (.slice vo l.length vcap) := cell_of_row _ _ 0 _ _ _ (HR.out.below ctd.low).top
      have s4 : W9.drew.cell? ⟨W.heap.size + 1, 1, none⟩ = some (.int .i64 (k : Int)) := cell_of_row _ _ 1 _ _ _ ctd.bx.c1
      have t2 : W9.drew.cell? ⟨W.heap.size + 2, 0, none⟩ = some (.bool false) := cell_of_row _ _ 0 _ _ _ ctd.bx.c2
      have z2 : W9.drew.frozen? ⟨W.heap.size + 2, 0, none⟩ = false := by simp [World.frozen?, ctd.bx.c2]
      have hDd : W9.drew.heap[W5.heap.size]? = some (.deferred (some [])) := hD
      have hrb : rb < W.heap.size := (HR.out.blk_lt rb (.inl rfl)).2
      have l4 : W.heap.size + 4 < W9.drew.heap.size := (Array.getElem?_eq_some_iff.1 ctd.c4).1
      have FD := hid (And.intro ctd (And.intro hDd (And.intro hrb l4)))
      have hS : W9.drew.cell? ⟨W.heap.size + 3, 0, none⟩ = some (.int .i64 (k : Nat)) ∧ W9.drew.cell? ⟨W.heap.size, 0, none⟩ = some (Value.pointer (some ⟨rb, 0, none⟩)) ∧ W9.drew.cell? ⟨rb, 0, none⟩ = some (.slice vo l.length vcap) ∧ W9.drew.cell? ⟨W.heap.size + 1, 1, none⟩ = some (.int .i64 (k : Int)) := ⟨s1, s2, s3, s4⟩
      clear bD ctd ct s1 s2 s3 s4 hDd hD hrb l4 CT HR HS HTN hl
      generalize l.length = m at *
      go_wp2
      refine plain_anyS (S := fun w' => w'.cell? ⟨W.heap.size + 3, 0, none⟩ = some (.int .i64 (k : Nat)) ∧ w'.cell? ⟨W.heap.size, 0, none⟩ = some (Value.pointer (some ⟨rb, 0, none⟩)) ∧ w'.cell? ⟨rb, 0, none⟩ = some (.slice vo m vcap) ∧ w'.cell? ⟨W.heap.size + 1, 1, none⟩ = some (.int .i64 (k : Int))) (by kernel_rfl) ?_
      generalize W9.drew = Wd at *
      (refine anyS_take (i := 0) (v := ?_) rfl (by kernel_rfl) (by kernel_rfl) (by kernel_rfl) (fun _ _ _ h => by cases h.1) (Or.inl ⟨by kernel_rfl, ?_⟩) hS ?_); rotate_left; (focus (intro w' hSw; obtain ⟨q1, q2, q3, q4⟩ := hSw; go_simp; (try with_reducible rfl))); (try simp only [Act.put, List.getElem_toArray, List.getElem_cons_zero, List.getElem_cons_succ, List.setIfInBounds_toArray, List.set_cons_zero, List.set_cons_succ])
      (refine anyS_take (i := 1) (v := ?_) rfl (by kernel_rfl) (by kernel_rfl) (by kernel_rfl) (fun _ _ _ h => by cases h.1) (Or.inl ⟨by kernel_rfl, ?_⟩) hS ?_); rotate_left; (focus (intro w' hSw; obtain ⟨q1, q2, q3, q4⟩ := hSw; go_simp; (try with_reducible rfl))); (try simp only [Act.put, List.getElem_toArray, List.getElem_cons_zero, List.getElem_cons_succ, List.setIfInBounds_toArray, List.set_cons_zero, List.set_cons_succ])
      (refine anyS_take (i := 2) (v := ?_) rfl (by kernel_rfl) (by kernel_rfl) (by kernel_rfl) (fun _ _ _ h => by cases h.1) (Or.inl ⟨by kernel_rfl, ?_⟩) hS ?_); rotate_left; (focus (intro w' hSw; obtain ⟨q1, q2, q3, q4⟩ := hSw; go_simp; (try with_reducible rfl))); (try simp only [Act.put, List.getElem_toArray, List.getElem_cons_zero, List.getElem_cons_succ, List.setIfInBounds_toArray, List.set_cons_zero, List.set_cons_succ])
      (refine anyS_take (i := 3) (v := ?_) rfl (by kernel_rfl) (by kernel_rfl) (by kernel_rfl) (fun _ _ _ h => by cases h.1) (Or.inl ⟨by kernel_rfl, ?_⟩) hS ?_); rotate_left; (focus (intro w' hSw; obtain ⟨q1, q2, q3, q4⟩ := hSw; go_simp; (try with_reducible rfl))); (try simp only [Act.put, List.getElem_toArray, List.getElem_cons_zero, List.getElem_cons_succ, List.setIfInBounds_toArray, List.set_cons_zero, List.set_cons_succ])
      (refine anyS_take (i := 4) (v := ?_) rfl (by kernel_rfl) (by kernel_rfl) (by kernel_rfl) (fun _ _ _ h => by cases h.1) (Or.inl ⟨by kernel_rfl, ?_⟩) hS ?_); rotate_left; (focus (intro w' hSw; obtain ⟨q1, q2, q3, q4⟩ := hSw; go_simp; (try with_reducible rfl))); (try simp only [Act.put, List.getElem_toArray, List.getElem_cons_zero, List.getElem_cons_succ, List.setIfInBounds_toArray, List.set_cons_zero, List.set_cons_succ])
      (refine anyS_take (i := 5) (v := ?_) rfl (by kernel_rfl) (by kernel_rfl) (by kernel_rfl) (fun _ _ _ h => by cases h.1) (Or.inl ⟨by kernel_rfl, ?_⟩) hS ?_); rotate_left; (focus (intro w' hSw; obtain ⟨q1, q2, q3, q4⟩ := hSw; go_simp; (try with_reducible rfl))); (try simp only [Act.put, List.getElem_toArray, List.getElem_cons_zero, List.getElem_cons_succ, List.setIfInBounds_toArray, List.set_cons_zero, List.set_cons_succ])
      (refine anyS_take (i := 6) (v := ?_) rfl (by kernel_rfl) (by kernel_rfl) (by kernel_rfl) (fun _ _ _ h => by cases h.1) (Or.inl ⟨by kernel_rfl, ?_⟩) hS ?_); rotate_left; (focus (intro w' hSw; obtain ⟨q1, q2, q3, q4⟩ := hSw; go_simp; (try with_reducible rfl))); (try simp only [Act.put, List.getElem_toArray, List.getElem_cons_zero, List.getElem_cons_succ, List.setIfInBounds_toArray, List.set_cons_zero, List.set_cons_succ])
      (refine anyS_take (i := 7) (v := ?_) rfl (by kernel_rfl) (by kernel_rfl) (by kernel_rfl) (fun _ _ _ h => by cases h.1) (Or.inl ⟨by kernel_rfl, ?_⟩) hS ?_); rotate_left; (focus (intro w' hSw; obtain ⟨q1, q2, q3, q4⟩ := hSw; go_simp; (try with_reducible rfl))); (try simp only [Act.put, List.getElem_toArray, List.getElem_cons_zero, List.getElem_cons_succ, List.setIfInBounds_toArray, List.set_cons_zero, List.set_cons_succ])
      (refine anyS_take (i := 8) (v := ?_) rfl (by kernel_rfl) (by kernel_rfl) (by kernel_rfl) (fun _ _ _ h => by cases h.1) (Or.inl ⟨by kernel_rfl, ?_⟩) hS ?_); rotate_left; (focus (intro w' hSw; obtain ⟨q1, q2, q3, q4⟩ := hSw; go_simp; (try with_reducible rfl))); (try simp only [Act.put, List.getElem_toArray, List.getElem_cons_zero, List.getElem_cons_succ, List.setIfInBounds_toArray, List.set_cons_zero, List.set_cons_succ])
      (refine anyS_take (i := 9) (v := ?_) rfl (by kernel_rfl) (by kernel_rfl) (by kernel_rfl) (fun _ _ _ h => by cases h.1) (Or.inl ⟨by kernel_rfl, ?_⟩) hS ?_); rotate_left; (focus (intro w' hSw; obtain ⟨q1, q2, q3, q4⟩ := hSw; go_simp; (try with_reducible rfl))); (try simp only [Act.put, List.getElem_toArray, List.getElem_cons_zero, List.getElem_cons_succ, List.setIfInBounds_toArray, List.set_cons_zero, List.set_cons_succ])
      (refine anyS_take (i := 10) (v := ?_) rfl (by kernel_rfl) (by kernel_rfl) (by kernel_rfl) (fun _ _ _ h => by cases h.1) (Or.inl ⟨by kernel_rfl, ?_⟩) hS ?_); rotate_left; (focus (intro w' hSw; obtain ⟨q1, q2, q3, q4⟩ := hSw; go_simp; (try with_reducible rfl))); (try simp only [Act.put, List.getElem_toArray, List.getElem_cons_zero, List.getElem_cons_succ, List.setIfInBounds_toArray, List.set_cons_zero, List.set_cons_succ])
      (refine anyS_take (i := 11) (v := ?_) rfl (by kernel_rfl) (by kernel_rfl) (by kernel_rfl) (fun _ _ _ h => by cases h.1) (Or.inl ⟨by kernel_rfl, ?_⟩) hS ?_); rotate_left; (focus (intro w' hSw; obtain ⟨q1, q2, q3, q4⟩ := hSw; go_simp; (try with_reducible rfl))); (try simp only [Act.put, List.getElem_toArray, List.getElem_cons_zero, List.getElem_cons_succ, List.setIfInBounds_toArray, List.set_cons_zero, List.set_cons_succ])
      (refine anyS_take (i := 12) (v := ?_) rfl (by kernel_rfl) (by kernel_rfl) (by kernel_rfl) (fun _ _ _ h => by cases h.1) (Or.inl ⟨by kernel_rfl, ?_⟩) hS ?_); rotate_left; (focus (intro w' hSw; obtain ⟨q1, q2, q3, q4⟩ := hSw; go_simp; (try with_reducible rfl))); (try simp only [Act.put, List.getElem_toArray, List.getElem_cons_zero, List.getElem_cons_succ, List.setIfInBounds_toArray, List.set_cons_zero, List.set_cons_succ])
      (refine anyS_take (i := 13) (v := ?_) rfl (by kernel_rfl) (by kernel_rfl) (by kernel_rfl) (fun _ _ _ h => by cases h.1) (Or.inl ⟨by kernel_rfl, ?_⟩) hS ?_); rotate_left; (focus (intro w' hSw; obtain ⟨q1, q2, q3, q4⟩ := hSw; go_simp; (try with_reducible rfl))); (try simp only [Act.put, List.getElem_toArray, List.getElem_cons_zero, List.getElem_cons_succ, List.setIfInBounds_toArray, List.set_cons_zero, List.set_cons_succ])
      (refine anyS_take (i := 14) (v := ?_) rfl (by kernel_rfl) (by kernel_rfl) (by kernel_rfl) (fun _ _ _ h => by cases h.1) (Or.inl ⟨by kernel_rfl, ?_⟩) hS ?_); rotate_left; (focus (intro w' hSw; obtain ⟨q1, q2, q3, q4⟩ := hSw; go_simp; (try with_reducible rfl))); (try simp only [Act.put, List.getElem_toArray, List.getElem_cons_zero, List.getElem_cons_succ, List.setIfInBounds_toArray, List.set_cons_zero, List.set_cons_succ])
      (refine anyS_take (i := 15) (v := ?_) rfl (by kernel_rfl) (by kernel_rfl) (by kernel_rfl) (fun _ _ _ h => by cases h.1) (Or.inl ⟨by kernel_rfl, ?_⟩) hS ?_); rotate_left; (focus (intro w' hSw; obtain ⟨q1, q2, q3, q4⟩ := hSw; go_simp; (try with_reducible rfl))); (try simp only [Act.put, List.getElem_toArray, List.getElem_cons_zero, List.getElem_cons_succ, List.setIfInBounds_toArray, List.set_cons_zero, List.set_cons_succ])
      (refine anyS_take (i := 16) (v := ?_) rfl (by kernel_rfl) (by kernel_rfl) (by kernel_rfl) (fun _ _ _ h => by cases h.1) (Or.inl ⟨by kernel_rfl, ?_⟩) hS ?_); rotate_left; (focus (intro w' hSw; obtain ⟨q1, q2, q3, q4⟩ := hSw; go_simp; (try with_reducible rfl))); (try simp only [Act.put, List.getElem_toArray, List.getElem_cons_zero, List.getElem_cons_succ, List.setIfInBounds_toArray, List.set_cons_zero, List.set_cons_succ])
      (refine anyS_take (i := 17) (v := ?_) rfl (by kernel_rfl) (by kernel_rfl) (by kernel_rfl) (fun _ _ _ h => by cases h.1) (Or.inl ⟨by kernel_rfl, ?_⟩) hS ?_); rotate_left; (focus (intro w' hSw; obtain ⟨q1, q2, q3, q4⟩ := hSw; go_simp; (try with_reducible rfl))); (try simp only [Act.put, List.getElem_toArray, List.getElem_cons_zero, List.getElem_cons_succ, List.setIfInBounds_toArray, List.set_cons_zero, List.set_cons_succ])
      refine anyS_one (i := 18) (by kernel_rfl) rfl (by kernel_rfl) (fun K hK => ?_)
      go_simp
      obtain ⟨ctd, hDd, hrb, l4⟩ := FD.out
      have uS : Upd (fun k => k = W.heap.size + 2) Wd (Wd.setCell ⟨W.heap.size + 2, 0, none⟩ (.bool true)) := (Upd.refl (fun k => k = W.heap.size + 2) Wd).setCell (p := ⟨W.heap.size + 2, 0, none⟩) (.inl rfl) _
      have ck : ∀ k j : Nat, k < Wd.heap.size → k ≠ W.heap.size + 2 → (Wd.setCell ⟨W.heap.size + 2, 0, none⟩ (.bool true)).cell? ⟨k, j, none⟩ = Wd.cell? ⟨k, j, none⟩ := fun k j e1 e2 => World.cell?_of_block (uS.block k e1 e2)
      refine hK _ _ ⟨⟨(ck _ 0 (by omega) (by omega)).trans hS.1, (ck _ 0 (by omega) (by omega)).trans hS.2.1, (ck rb 0 (by omega) (by omega)).trans hS.2.2.1, (ck _ 1 (by omega) (by omega)).trans hS.2.2.2⟩, ?_⟩
      have f2 := heap_set (c := [_]) ctd.bx.c2 0 (.bool true)
      have hz5 := ZB.out
      have hlt := (Array.getElem?_eq_some_iff.1 hDd).1
      have hDF := (uS.block W5.heap.size hlt (by omega)).trans hDd
      have bF := ctd.low.trans (uS.below ctd.low.size (fun k e => by omega))
      have FF := hid (And.intro f2 (And.intro hDF bF))
      clear hK K ck uS hS f2 hDF bF ctd hDd hlt t2 z2
      (try simp only [Act.put, List.getElem_toArray, List.getElem_cons_zero, List.getElem_cons_succ, List.setIfInBounds_toArray, List.set_cons_zero, List.set_cons_succ])
      refine anyS_done (by kernel_rfl) ⟨rfl, ?_⟩ _
      go_wp2
      obtain ⟨f2, hDF, bF⟩ := FF.out
      generalize (Wd.setCell ⟨W.heap.size + 2, 0, none⟩ (.bool true)) = Fw at *
      refine ⟨by simp, .inl ⟨_, _, rfl, run_takeDeferred hDF, ?_⟩⟩
      have uP : Upd (fun k => k = W5.heap.size) Fw (Fw.putObj W5.heap.size (.deferred none)) := upd_put (S := fun k => k = W5.heap.size) rfl _
      have g2 := (uP.block (W.heap.size + 2) (Array.getElem?_eq_some_iff.1 f2).1 (by omega)).trans f2
      exact ⟨_, one_ret rfl _ _ (W.heap.size + 2) _ rfl g2, rfl, bF.trans (uP.below bF.size (fun k e => by omega))⟩
end Go.Proofs.Ytmeoonnofiicpaa.W.R5
