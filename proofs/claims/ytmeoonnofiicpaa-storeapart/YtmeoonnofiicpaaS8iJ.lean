import Derived.Test.YtmeoonnofiicpaaS8hJ
import Derived.Test.YtmeoonnofiicpaaS8cJ
/- act: giving, saving: two calls in one region that draws its order. -/
namespace Go.Proofs.Ytmeoonnofiicpaa.W.R5
open Go.ChangeShapes Go.WideShapes Go.RowKit Go.Shelf
set_option linter.unusedVariables false
set_option linter.unusedSimpArgs false
theorem bx_cells {W w' : World} {rb : Nat} {q n id off wd x : Int} (h : Bx W w' rb ⟨q, n, id, off, wd, x⟩) : w'.cell? ⟨W.heap.size, 0, none⟩ = some (Value.pointer (some ⟨rb, 0, none⟩)) ∧ w'.cell? ⟨W.heap.size + 1, 2, none⟩ = some (.int .i64 id) ∧ w'.cell? ⟨W.heap.size + 1, 3, none⟩ = some (.int .i64 off) ∧ w'.cell? ⟨W.heap.size + 1, 4, none⟩ = some (.int .i64 wd) ∧ w'.cell? ⟨W.heap.size + 1, 5, none⟩ = some (.int .u64 x) :=
  ⟨cell_of_row _ _ 0 _ _ _ h.c0, cell_of_row _ _ 2 _ _ _ h.c1, cell_of_row _ _ 3 _ _ _ h.c1, cell_of_row _ _ 4 _ _ _ h.c1, cell_of_row _ _ 5 _ _ _ h.c1⟩
set_option maxRecDepth 100000 in
set_option maxHeartbeats 4000000 in
theorem act2_g {W : World} {sb rb : Nat} (a : Si.A6) (hk : a.what = 2) (e0 : Int) (J L : World → Prop)
    (h1 : ∀ w', Bx W w' rb a → Below W.heap.size W w' → w'.heap.size = W.heap.size + 3 → Calls Try.prog 13 #[(Value.pointer (some ⟨sb, 0, none⟩)), .int .i64 a.id] w' fun e w'' => e = .returned (.int .i64 e0) ∧ J w'')
    (k1 : ∀ w', J w' → Bx W w' rb a) (h2 : ∀ w', J w' → Calls Try.prog 14 #[(Value.pointer (some ⟨rb, 0, none⟩)), .int .i64 a.id] w' fun e w'' => e = .returned (.int .i64 e0) ∧ L w'') (k2 : ∀ w', L w' → Bx W w' rb a) :
    Calls Try.prog 7 #[(Value.pointer (some ⟨sb, 0, none⟩)), (Value.pointer (some ⟨rb, 0, none⟩)), (Value.agg #[.int .i64 a.what, .int .i64 a.n, .int .i64 a.id, .int .i64 a.off, .int .i64 a.wd, .int .u64 a.x])] W fun e w' => e = .returned (.bool true) ∧ ∃ w'', L w'' ∧ w' = w''.setCell ⟨W.heap.size + 2, 0, none⟩ (.bool true) := by
  obtain ⟨q, n, id, off, wd, x⟩ := a
  simp only at hk h1 h2 ⊢
  subst hk
  have H1 := hid h1
  have H2 := hid h2
  have K1 := hid k1
  have K2 := hid k2
  clear h1 h2 k1 k2
  refine (callsIn_wide (n := 9)).1 ?_
  refine callsIn_of_wp_marks Try.func7 rfl trivial ?_ rfl
  refine wpIn_wide.2 ?_
  simp only [Try.ntmps7, List.size_toArray, List.length_cons, List.length_nil, Nat.reduceAdd, Nat.reduceSub, Array.replicate_succ, Array.replicate_zero, List.push_toArray, List.append_toArray, List.nil_append, List.cons_append]
  go_upto_region 1 with fail
  simp only [Nat.add_assoc, Nat.reduceAdd]
  obtain ⟨z3, d0, d1, d2, b3⟩ := chain3 W (.cells #[(Value.pointer (some ⟨rb, 0, none⟩))] 26) (.cells #[.int .i64 2, .int .i64 n, .int .i64 id, .int .i64 off, .int .i64 wd, .int .u64 x] 33) (.cells #[.bool false] 4)
  generalize (((W.alloc (.cells #[(Value.pointer (some ⟨rb, 0, none⟩))] 26)).alloc (.cells #[.int .i64 2, .int .i64 n, .int .i64 id, .int .i64 off, .int .i64 wd, .int .u64 x] 33)).alloc (.cells #[.bool false] 4)) = W3 at *
  have bx : Bx W W3 rb ⟨2, n, id, off, wd, x⟩ := ⟨d0, d1, d2⟩
  have bxd : Bx W W3.drew rb ⟨2, n, id, off, wd, x⟩ := ⟨d0, d1, d2⟩
  have cc := fun j => cell_of_row _ _ j _ _ _ bx.c1
  have x0 := cc 0
  simp [Si.A6.cells] at x0
  have cl := H1.out W3.drew bxd (b3.trans ⟨rfl, rfl, rfl, Nat.le_refl _, fun _ _ => rfl⟩) z3
  have hS := bx_cells bxd
  clear cc d0 d1 d2 b3 z3 bx bxd H1
  go_wp2
  refine plain_anyS (S := fun w' => w'.cell? ⟨W.heap.size, 0, none⟩ = some (Value.pointer (some ⟨rb, 0, none⟩)) ∧ w'.cell? ⟨W.heap.size + 1, 2, none⟩ = some (.int .i64 id) ∧ w'.cell? ⟨W.heap.size + 1, 3, none⟩ = some (.int .i64 off) ∧ w'.cell? ⟨W.heap.size + 1, 4, none⟩ = some (.int .i64 wd) ∧ w'.cell? ⟨W.heap.size + 1, 5, none⟩ = some (.int .u64 x)) (by kernel_rfl) ?_
  generalize W3.drew = Wd at *
  (refine anyS_take (i := 0) (v := ?_) rfl (by kernel_rfl) (by kernel_rfl) (by kernel_rfl) (fun _ _ _ h => by cases h.1) (Or.inl ⟨by kernel_rfl, ?_⟩) hS ?_); rotate_left; (focus (intro w' hSw; obtain ⟨q1, q2, q3, q4, q5⟩ := hSw; go_simp; (try with_reducible rfl))); (try simp only [Act.put, List.getElem_toArray, List.getElem_cons_zero, List.getElem_cons_succ, List.setIfInBounds_toArray, List.set_cons_zero, List.set_cons_succ])
  (refine anyS_take (i := 1) (v := ?_) rfl (by kernel_rfl) (by kernel_rfl) (by kernel_rfl) (fun _ _ _ h => by cases h.1) (Or.inl ⟨by kernel_rfl, ?_⟩) hS ?_); rotate_left; (focus (intro w' hSw; obtain ⟨q1, q2, q3, q4, q5⟩ := hSw; go_simp; (try with_reducible rfl))); (try simp only [Act.put, List.getElem_toArray, List.getElem_cons_zero, List.getElem_cons_succ, List.setIfInBounds_toArray, List.set_cons_zero, List.set_cons_succ])
  (refine anyS_take (i := 2) (v := ?_) rfl (by kernel_rfl) (by kernel_rfl) (by kernel_rfl) (fun _ _ _ h => by cases h.1) (Or.inl ⟨by kernel_rfl, ?_⟩) hS ?_); rotate_left; (focus (intro w' hSw; obtain ⟨q1, q2, q3, q4, q5⟩ := hSw; go_simp; (try with_reducible rfl))); (try simp only [Act.put, List.getElem_toArray, List.getElem_cons_zero, List.getElem_cons_succ, List.setIfInBounds_toArray, List.set_cons_zero, List.set_cons_succ])
  (refine anyS_take (i := 4) (v := ?_) rfl (by kernel_rfl) (by kernel_rfl) (by kernel_rfl) (fun _ _ _ h => by cases h.1) (Or.inl ⟨by kernel_rfl, ?_⟩) hS ?_); rotate_left; (focus (intro w' hSw; obtain ⟨q1, q2, q3, q4, q5⟩ := hSw; go_simp; (try with_reducible rfl))); (try simp only [Act.put, List.getElem_toArray, List.getElem_cons_zero, List.getElem_cons_succ, List.setIfInBounds_toArray, List.set_cons_zero, List.set_cons_succ])
  (refine anyS_take (i := 5) (v := ?_) rfl (by kernel_rfl) (by kernel_rfl) (by kernel_rfl) (fun _ _ _ h => by cases h.1) (Or.inl ⟨by kernel_rfl, ?_⟩) hS ?_); rotate_left; (focus (intro w' hSw; obtain ⟨q1, q2, q3, q4, q5⟩ := hSw; go_simp; (try with_reducible rfl))); (try simp only [Act.put, List.getElem_toArray, List.getElem_cons_zero, List.getElem_cons_succ, List.setIfInBounds_toArray, List.set_cons_zero, List.set_cons_succ])
  (refine anyS_take (i := 6) (v := ?_) rfl (by kernel_rfl) (by kernel_rfl) (by kernel_rfl) (fun _ _ _ h => by cases h.1) (Or.inl ⟨by kernel_rfl, ?_⟩) hS ?_); rotate_left; (focus (intro w' hSw; obtain ⟨q1, q2, q3, q4, q5⟩ := hSw; go_simp; (try with_reducible rfl))); (try simp only [Act.put, List.getElem_toArray, List.getElem_cons_zero, List.getElem_cons_succ, List.setIfInBounds_toArray, List.set_cons_zero, List.set_cons_succ])
  refine anyS_one (i := 3) (by kernel_rfl) rfl (by kernel_rfl) (fun K hK => ?_)
  go_simp
  refine ⟨trivial, (callsIn_wide.2 cl).mono ?_⟩
  rintro e w4 ⟨rfl, hj⟩
  have hS4 := bx_cells (K1.out w4 hj)
  refine hK _ _ ⟨hS4, ?_⟩
  have cl2 := H2.out w4 hj
  clear hK K cl hS hj K1 H2
  (try simp only [Act.put, List.getElem_toArray, List.getElem_cons_zero, List.getElem_cons_succ, List.setIfInBounds_toArray, List.set_cons_zero, List.set_cons_succ])
  have hS := hS4
  clear hS4
  refine anyS_one (i := 7) (by kernel_rfl) rfl (by kernel_rfl) (fun K hK => ?_)
  go_simp
  refine ⟨trivial, (callsIn_wide.2 cl2).mono ?_⟩
  rintro e w5 ⟨rfl, hl⟩
  have bx5 := K2.out w5 hl
  have hS5 := bx_cells bx5
  refine hK _ _ ⟨hS5, ?_⟩
  clear hK K cl2 hS
  (try simp only [Act.put, List.getElem_toArray, List.getElem_cons_zero, List.getElem_cons_succ, List.setIfInBounds_toArray, List.set_cons_zero, List.set_cons_succ])
  have hS := hS5
  clear hS5
  (refine anyS_take (i := 8) (v := ?_) rfl (by kernel_rfl) (by kernel_rfl) (by kernel_rfl) (fun _ _ _ h => by cases h.1) (Or.inl ⟨by kernel_rfl, ?_⟩) hS ?_); rotate_left; (focus (intro w' hSw; obtain ⟨q1, q2, q3, q4, q5⟩ := hSw; go_simp; (try with_reducible rfl))); (try simp only [Act.put, List.getElem_toArray, List.getElem_cons_zero, List.getElem_cons_succ, List.setIfInBounds_toArray, List.set_cons_zero, List.set_cons_succ])
  have q2 : w5.cell? ⟨W.heap.size + 2, 0, none⟩ = some (.bool false) := cell_of_row _ _ 0 _ _ _ bx5.c2
  have z2 : w5.frozen? ⟨W.heap.size + 2, 0, none⟩ = false := by simp [World.frozen?, bx5.c2]
  refine anyS_one (i := 9) (by kernel_rfl) rfl (by kernel_rfl) (fun K hK => ?_)
  go_simp
  have uS : Upd (fun k => k = W.heap.size + 2) w5 (w5.setCell ⟨W.heap.size + 2, 0, none⟩ (.bool true)) := (Upd.refl (fun k => k = W.heap.size + 2) w5).setCell (p := ⟨W.heap.size + 2, 0, none⟩) (.inl rfl) _
  have l0 := (Array.getElem?_eq_some_iff.1 bx5.c0).1
  have l1 := (Array.getElem?_eq_some_iff.1 bx5.c1).1
  have ca : ∀ j, (w5.setCell ⟨W.heap.size + 2, 0, none⟩ (.bool true)).cell? ⟨W.heap.size, j, none⟩ = w5.cell? ⟨W.heap.size, j, none⟩ := fun j => World.cell?_of_block (uS.block W.heap.size l0 (by omega))
  have cb : ∀ j, (w5.setCell ⟨W.heap.size + 2, 0, none⟩ (.bool true)).cell? ⟨W.heap.size + 1, j, none⟩ = w5.cell? ⟨W.heap.size + 1, j, none⟩ := fun j => World.cell?_of_block (uS.block (W.heap.size + 1) l1 (by omega))
  refine hK _ _ ⟨⟨(ca 0).trans hS.1, (cb 2).trans hS.2.1, (cb 3).trans hS.2.2.1, (cb 4).trans hS.2.2.2.1, (cb 5).trans hS.2.2.2.2⟩, ?_⟩
  have f2 := heap_set (c := [_]) bx5.c2 0 (.bool true)
  have F2 := hid f2
  have HL := hid hl
  clear hK K bx5 f2 hl K2 uS ca cb l0 l1
  (try simp only [Act.put, List.getElem_toArray, List.getElem_cons_zero, List.getElem_cons_succ, List.setIfInBounds_toArray, List.set_cons_zero, List.set_cons_succ])
  refine anyS_done (by kernel_rfl) ⟨rfl, ?_⟩ _
  go_wp2
  refine ⟨_, one_ret rfl _ _ (W.heap.size + 2) _ rfl F2.out, rfl, w5, HL.out, rfl⟩
set_option maxRecDepth 100000 in
set_option maxHeartbeats 4000000 in
theorem act5_g {W : World} {sb rb : Nat} (a : Si.A6) (hk : a.what = 5) (e0 : Int) (J L : World → Prop)
    (h1 : ∀ w', Bx W w' rb a → Below W.heap.size W w' → w'.heap.size = W.heap.size + 3 → Calls Try.prog 19 #[(Value.pointer (some ⟨sb, 0, none⟩)), .int .i64 a.id, .int .i64 a.off, .int .i64 a.wd, .int .u64 a.x] w' fun e w'' => e = .returned (.int .i64 e0) ∧ J w'')
    (k1 : ∀ w', J w' → Bx W w' rb a) (h2 : ∀ w', J w' → Calls Try.prog 20 #[(Value.pointer (some ⟨rb, 0, none⟩)), .int .i64 a.id, .int .i64 a.off, .int .i64 a.wd, .int .u64 a.x] w' fun e w'' => e = .returned (.int .i64 e0) ∧ L w'') (k2 : ∀ w', L w' → Bx W w' rb a) :
    Calls Try.prog 7 #[(Value.pointer (some ⟨sb, 0, none⟩)), (Value.pointer (some ⟨rb, 0, none⟩)), (Value.agg #[.int .i64 a.what, .int .i64 a.n, .int .i64 a.id, .int .i64 a.off, .int .i64 a.wd, .int .u64 a.x])] W fun e w' => e = .returned (.bool true) ∧ ∃ w'', L w'' ∧ w' = w''.setCell ⟨W.heap.size + 2, 0, none⟩ (.bool true) := by
  obtain ⟨q, n, id, off, wd, x⟩ := a
  simp only at hk h1 h2 ⊢
  subst hk
  have H1 := hid h1
  have H2 := hid h2
  have K1 := hid k1
  have K2 := hid k2
  clear h1 h2 k1 k2
  refine (callsIn_wide (n := 9)).1 ?_
  refine callsIn_of_wp_marks Try.func7 rfl trivial ?_ rfl
  refine wpIn_wide.2 ?_
  simp only [Try.ntmps7, List.size_toArray, List.length_cons, List.length_nil, Nat.reduceAdd, Nat.reduceSub, Array.replicate_succ, Array.replicate_zero, List.push_toArray, List.append_toArray, List.nil_append, List.cons_append]
  go_upto_region 1 with fail
  simp only [Nat.add_assoc, Nat.reduceAdd]
  obtain ⟨z3, d0, d1, d2, b3⟩ := chain3 W (.cells #[(Value.pointer (some ⟨rb, 0, none⟩))] 26) (.cells #[.int .i64 5, .int .i64 n, .int .i64 id, .int .i64 off, .int .i64 wd, .int .u64 x] 33) (.cells #[.bool false] 4)
  generalize (((W.alloc (.cells #[(Value.pointer (some ⟨rb, 0, none⟩))] 26)).alloc (.cells #[.int .i64 5, .int .i64 n, .int .i64 id, .int .i64 off, .int .i64 wd, .int .u64 x] 33)).alloc (.cells #[.bool false] 4)) = W3 at *
  have bx : Bx W W3 rb ⟨5, n, id, off, wd, x⟩ := ⟨d0, d1, d2⟩
  have bxd : Bx W W3.drew rb ⟨5, n, id, off, wd, x⟩ := ⟨d0, d1, d2⟩
  have cc := fun j => cell_of_row _ _ j _ _ _ bx.c1
  have x0 := cc 0
  simp [Si.A6.cells] at x0
  have cl := H1.out W3.drew bxd (b3.trans ⟨rfl, rfl, rfl, Nat.le_refl _, fun _ _ => rfl⟩) z3
  have hS := bx_cells bxd
  clear cc d0 d1 d2 b3 z3 bx bxd H1
  go_wp2
  refine plain_anyS (S := fun w' => w'.cell? ⟨W.heap.size, 0, none⟩ = some (Value.pointer (some ⟨rb, 0, none⟩)) ∧ w'.cell? ⟨W.heap.size + 1, 2, none⟩ = some (.int .i64 id) ∧ w'.cell? ⟨W.heap.size + 1, 3, none⟩ = some (.int .i64 off) ∧ w'.cell? ⟨W.heap.size + 1, 4, none⟩ = some (.int .i64 wd) ∧ w'.cell? ⟨W.heap.size + 1, 5, none⟩ = some (.int .u64 x)) (by kernel_rfl) ?_
  generalize W3.drew = Wd at *
  (refine anyS_take (i := 0) (v := ?_) rfl (by kernel_rfl) (by kernel_rfl) (by kernel_rfl) (fun _ _ _ h => by cases h.1) (Or.inl ⟨by kernel_rfl, ?_⟩) hS ?_); rotate_left; (focus (intro w' hSw; obtain ⟨q1, q2, q3, q4, q5⟩ := hSw; go_simp; (try with_reducible rfl))); (try simp only [Act.put, List.getElem_toArray, List.getElem_cons_zero, List.getElem_cons_succ, List.setIfInBounds_toArray, List.set_cons_zero, List.set_cons_succ])
  (refine anyS_take (i := 1) (v := ?_) rfl (by kernel_rfl) (by kernel_rfl) (by kernel_rfl) (fun _ _ _ h => by cases h.1) (Or.inl ⟨by kernel_rfl, ?_⟩) hS ?_); rotate_left; (focus (intro w' hSw; obtain ⟨q1, q2, q3, q4, q5⟩ := hSw; go_simp; (try with_reducible rfl))); (try simp only [Act.put, List.getElem_toArray, List.getElem_cons_zero, List.getElem_cons_succ, List.setIfInBounds_toArray, List.set_cons_zero, List.set_cons_succ])
  (refine anyS_take (i := 2) (v := ?_) rfl (by kernel_rfl) (by kernel_rfl) (by kernel_rfl) (fun _ _ _ h => by cases h.1) (Or.inl ⟨by kernel_rfl, ?_⟩) hS ?_); rotate_left; (focus (intro w' hSw; obtain ⟨q1, q2, q3, q4, q5⟩ := hSw; go_simp; (try with_reducible rfl))); (try simp only [Act.put, List.getElem_toArray, List.getElem_cons_zero, List.getElem_cons_succ, List.setIfInBounds_toArray, List.set_cons_zero, List.set_cons_succ])
  (refine anyS_take (i := 3) (v := ?_) rfl (by kernel_rfl) (by kernel_rfl) (by kernel_rfl) (fun _ _ _ h => by cases h.1) (Or.inl ⟨by kernel_rfl, ?_⟩) hS ?_); rotate_left; (focus (intro w' hSw; obtain ⟨q1, q2, q3, q4, q5⟩ := hSw; go_simp; (try with_reducible rfl))); (try simp only [Act.put, List.getElem_toArray, List.getElem_cons_zero, List.getElem_cons_succ, List.setIfInBounds_toArray, List.set_cons_zero, List.set_cons_succ])
  (refine anyS_take (i := 4) (v := ?_) rfl (by kernel_rfl) (by kernel_rfl) (by kernel_rfl) (fun _ _ _ h => by cases h.1) (Or.inl ⟨by kernel_rfl, ?_⟩) hS ?_); rotate_left; (focus (intro w' hSw; obtain ⟨q1, q2, q3, q4, q5⟩ := hSw; go_simp; (try with_reducible rfl))); (try simp only [Act.put, List.getElem_toArray, List.getElem_cons_zero, List.getElem_cons_succ, List.setIfInBounds_toArray, List.set_cons_zero, List.set_cons_succ])
  (refine anyS_take (i := 5) (v := ?_) rfl (by kernel_rfl) (by kernel_rfl) (by kernel_rfl) (fun _ _ _ h => by cases h.1) (Or.inl ⟨by kernel_rfl, ?_⟩) hS ?_); rotate_left; (focus (intro w' hSw; obtain ⟨q1, q2, q3, q4, q5⟩ := hSw; go_simp; (try with_reducible rfl))); (try simp only [Act.put, List.getElem_toArray, List.getElem_cons_zero, List.getElem_cons_succ, List.setIfInBounds_toArray, List.set_cons_zero, List.set_cons_succ])
  (refine anyS_take (i := 6) (v := ?_) rfl (by kernel_rfl) (by kernel_rfl) (by kernel_rfl) (fun _ _ _ h => by cases h.1) (Or.inl ⟨by kernel_rfl, ?_⟩) hS ?_); rotate_left; (focus (intro w' hSw; obtain ⟨q1, q2, q3, q4, q5⟩ := hSw; go_simp; (try with_reducible rfl))); (try simp only [Act.put, List.getElem_toArray, List.getElem_cons_zero, List.getElem_cons_succ, List.setIfInBounds_toArray, List.set_cons_zero, List.set_cons_succ])
  (refine anyS_take (i := 7) (v := ?_) rfl (by kernel_rfl) (by kernel_rfl) (by kernel_rfl) (fun _ _ _ h => by cases h.1) (Or.inl ⟨by kernel_rfl, ?_⟩) hS ?_); rotate_left; (focus (intro w' hSw; obtain ⟨q1, q2, q3, q4, q5⟩ := hSw; go_simp; (try with_reducible rfl))); (try simp only [Act.put, List.getElem_toArray, List.getElem_cons_zero, List.getElem_cons_succ, List.setIfInBounds_toArray, List.set_cons_zero, List.set_cons_succ])
  (refine anyS_take (i := 8) (v := ?_) rfl (by kernel_rfl) (by kernel_rfl) (by kernel_rfl) (fun _ _ _ h => by cases h.1) (Or.inl ⟨by kernel_rfl, ?_⟩) hS ?_); rotate_left; (focus (intro w' hSw; obtain ⟨q1, q2, q3, q4, q5⟩ := hSw; go_simp; (try with_reducible rfl))); (try simp only [Act.put, List.getElem_toArray, List.getElem_cons_zero, List.getElem_cons_succ, List.setIfInBounds_toArray, List.set_cons_zero, List.set_cons_succ])
  (refine anyS_take (i := 10) (v := ?_) rfl (by kernel_rfl) (by kernel_rfl) (by kernel_rfl) (fun _ _ _ h => by cases h.1) (Or.inl ⟨by kernel_rfl, ?_⟩) hS ?_); rotate_left; (focus (intro w' hSw; obtain ⟨q1, q2, q3, q4, q5⟩ := hSw; go_simp; (try with_reducible rfl))); (try simp only [Act.put, List.getElem_toArray, List.getElem_cons_zero, List.getElem_cons_succ, List.setIfInBounds_toArray, List.set_cons_zero, List.set_cons_succ])
  (refine anyS_take (i := 11) (v := ?_) rfl (by kernel_rfl) (by kernel_rfl) (by kernel_rfl) (fun _ _ _ h => by cases h.1) (Or.inl ⟨by kernel_rfl, ?_⟩) hS ?_); rotate_left; (focus (intro w' hSw; obtain ⟨q1, q2, q3, q4, q5⟩ := hSw; go_simp; (try with_reducible rfl))); (try simp only [Act.put, List.getElem_toArray, List.getElem_cons_zero, List.getElem_cons_succ, List.setIfInBounds_toArray, List.set_cons_zero, List.set_cons_succ])
  (refine anyS_take (i := 12) (v := ?_) rfl (by kernel_rfl) (by kernel_rfl) (by kernel_rfl) (fun _ _ _ h => by cases h.1) (Or.inl ⟨by kernel_rfl, ?_⟩) hS ?_); rotate_left; (focus (intro w' hSw; obtain ⟨q1, q2, q3, q4, q5⟩ := hSw; go_simp; (try with_reducible rfl))); (try simp only [Act.put, List.getElem_toArray, List.getElem_cons_zero, List.getElem_cons_succ, List.setIfInBounds_toArray, List.set_cons_zero, List.set_cons_succ])
  (refine anyS_take (i := 13) (v := ?_) rfl (by kernel_rfl) (by kernel_rfl) (by kernel_rfl) (fun _ _ _ h => by cases h.1) (Or.inl ⟨by kernel_rfl, ?_⟩) hS ?_); rotate_left; (focus (intro w' hSw; obtain ⟨q1, q2, q3, q4, q5⟩ := hSw; go_simp; (try with_reducible rfl))); (try simp only [Act.put, List.getElem_toArray, List.getElem_cons_zero, List.getElem_cons_succ, List.setIfInBounds_toArray, List.set_cons_zero, List.set_cons_succ])
  (refine anyS_take (i := 14) (v := ?_) rfl (by kernel_rfl) (by kernel_rfl) (by kernel_rfl) (fun _ _ _ h => by cases h.1) (Or.inl ⟨by kernel_rfl, ?_⟩) hS ?_); rotate_left; (focus (intro w' hSw; obtain ⟨q1, q2, q3, q4, q5⟩ := hSw; go_simp; (try with_reducible rfl))); (try simp only [Act.put, List.getElem_toArray, List.getElem_cons_zero, List.getElem_cons_succ, List.setIfInBounds_toArray, List.set_cons_zero, List.set_cons_succ])
  (refine anyS_take (i := 15) (v := ?_) rfl (by kernel_rfl) (by kernel_rfl) (by kernel_rfl) (fun _ _ _ h => by cases h.1) (Or.inl ⟨by kernel_rfl, ?_⟩) hS ?_); rotate_left; (focus (intro w' hSw; obtain ⟨q1, q2, q3, q4, q5⟩ := hSw; go_simp; (try with_reducible rfl))); (try simp only [Act.put, List.getElem_toArray, List.getElem_cons_zero, List.getElem_cons_succ, List.setIfInBounds_toArray, List.set_cons_zero, List.set_cons_succ])
  (refine anyS_take (i := 16) (v := ?_) rfl (by kernel_rfl) (by kernel_rfl) (by kernel_rfl) (fun _ _ _ h => by cases h.1) (Or.inl ⟨by kernel_rfl, ?_⟩) hS ?_); rotate_left; (focus (intro w' hSw; obtain ⟨q1, q2, q3, q4, q5⟩ := hSw; go_simp; (try with_reducible rfl))); (try simp only [Act.put, List.getElem_toArray, List.getElem_cons_zero, List.getElem_cons_succ, List.setIfInBounds_toArray, List.set_cons_zero, List.set_cons_succ])
  (refine anyS_take (i := 17) (v := ?_) rfl (by kernel_rfl) (by kernel_rfl) (by kernel_rfl) (fun _ _ _ h => by cases h.1) (Or.inl ⟨by kernel_rfl, ?_⟩) hS ?_); rotate_left; (focus (intro w' hSw; obtain ⟨q1, q2, q3, q4, q5⟩ := hSw; go_simp; (try with_reducible rfl))); (try simp only [Act.put, List.getElem_toArray, List.getElem_cons_zero, List.getElem_cons_succ, List.setIfInBounds_toArray, List.set_cons_zero, List.set_cons_succ])
  (refine anyS_take (i := 18) (v := ?_) rfl (by kernel_rfl) (by kernel_rfl) (by kernel_rfl) (fun _ _ _ h => by cases h.1) (Or.inl ⟨by kernel_rfl, ?_⟩) hS ?_); rotate_left; (focus (intro w' hSw; obtain ⟨q1, q2, q3, q4, q5⟩ := hSw; go_simp; (try with_reducible rfl))); (try simp only [Act.put, List.getElem_toArray, List.getElem_cons_zero, List.getElem_cons_succ, List.setIfInBounds_toArray, List.set_cons_zero, List.set_cons_succ])
  refine anyS_one (i := 9) (by kernel_rfl) rfl (by kernel_rfl) (fun K hK => ?_)
  go_simp
  refine ⟨trivial, (callsIn_wide.2 cl).mono ?_⟩
  rintro e w4 ⟨rfl, hj⟩
  have hS4 := bx_cells (K1.out w4 hj)
  refine hK _ _ ⟨hS4, ?_⟩
  have cl2 := H2.out w4 hj
  clear hK K cl hS hj K1 H2
  (try simp only [Act.put, List.getElem_toArray, List.getElem_cons_zero, List.getElem_cons_succ, List.setIfInBounds_toArray, List.set_cons_zero, List.set_cons_succ])
  have hS := hS4
  clear hS4
  refine anyS_one (i := 19) (by kernel_rfl) rfl (by kernel_rfl) (fun K hK => ?_)
  go_simp
  refine ⟨trivial, (callsIn_wide.2 cl2).mono ?_⟩
  rintro e w5 ⟨rfl, hl⟩
  have bx5 := K2.out w5 hl
  have hS5 := bx_cells bx5
  refine hK _ _ ⟨hS5, ?_⟩
  clear hK K cl2 hS
  (try simp only [Act.put, List.getElem_toArray, List.getElem_cons_zero, List.getElem_cons_succ, List.setIfInBounds_toArray, List.set_cons_zero, List.set_cons_succ])
  have hS := hS5
  clear hS5
  (refine anyS_take (i := 20) (v := ?_) rfl (by kernel_rfl) (by kernel_rfl) (by kernel_rfl) (fun _ _ _ h => by cases h.1) (Or.inl ⟨by kernel_rfl, ?_⟩) hS ?_); rotate_left; (focus (intro w' hSw; obtain ⟨q1, q2, q3, q4, q5⟩ := hSw; go_simp; (try with_reducible rfl))); (try simp only [Act.put, List.getElem_toArray, List.getElem_cons_zero, List.getElem_cons_succ, List.setIfInBounds_toArray, List.set_cons_zero, List.set_cons_succ])
  have q2 : w5.cell? ⟨W.heap.size + 2, 0, none⟩ = some (.bool false) := cell_of_row _ _ 0 _ _ _ bx5.c2
  have z2 : w5.frozen? ⟨W.heap.size + 2, 0, none⟩ = false := by simp [World.frozen?, bx5.c2]
  refine anyS_one (i := 21) (by kernel_rfl) rfl (by kernel_rfl) (fun K hK => ?_)
  go_simp
  have uS : Upd (fun k => k = W.heap.size + 2) w5 (w5.setCell ⟨W.heap.size + 2, 0, none⟩ (.bool true)) := (Upd.refl (fun k => k = W.heap.size + 2) w5).setCell (p := ⟨W.heap.size + 2, 0, none⟩) (.inl rfl) _
  have l0 := (Array.getElem?_eq_some_iff.1 bx5.c0).1
  have l1 := (Array.getElem?_eq_some_iff.1 bx5.c1).1
  have ca : ∀ j, (w5.setCell ⟨W.heap.size + 2, 0, none⟩ (.bool true)).cell? ⟨W.heap.size, j, none⟩ = w5.cell? ⟨W.heap.size, j, none⟩ := fun j => World.cell?_of_block (uS.block W.heap.size l0 (by omega))
  have cb : ∀ j, (w5.setCell ⟨W.heap.size + 2, 0, none⟩ (.bool true)).cell? ⟨W.heap.size + 1, j, none⟩ = w5.cell? ⟨W.heap.size + 1, j, none⟩ := fun j => World.cell?_of_block (uS.block (W.heap.size + 1) l1 (by omega))
  refine hK _ _ ⟨⟨(ca 0).trans hS.1, (cb 2).trans hS.2.1, (cb 3).trans hS.2.2.1, (cb 4).trans hS.2.2.2.1, (cb 5).trans hS.2.2.2.2⟩, ?_⟩
  have f2 := heap_set (c := [_]) bx5.c2 0 (.bool true)
  have F2 := hid f2
  have HL := hid hl
  clear hK K bx5 f2 hl K2 uS ca cb l0 l1
  (try simp only [Act.put, List.getElem_toArray, List.getElem_cons_zero, List.getElem_cons_succ, List.setIfInBounds_toArray, List.set_cons_zero, List.set_cons_succ])
  refine anyS_done (by kernel_rfl) ⟨rfl, ?_⟩ _
  go_wp2
  refine ⟨_, one_ret rfl _ _ (W.heap.size + 2) _ rfl F2.out, rfl, w5, HL.out, rfl⟩
end Go.Proofs.Ytmeoonnofiicpaa.W.R5
