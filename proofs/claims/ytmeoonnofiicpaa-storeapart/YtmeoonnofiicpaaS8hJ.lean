import Derived.Test.YtmeoonnofiicpaaS8eJ
import Derived.Test.YtmeoonnofiicpaaS8gJ
/- act: taking, asking how long, loading. -/
namespace Go.Proofs.Ytmeoonnofiicpaa.W.R5
open Go.ChangeShapes Go.WideShapes Go.RowKit Go.Shelf
set_option linter.unusedVariables false
set_option linter.unusedSimpArgs false
/-- a store and the reference's, of the same, all behind B0; K: what may be theirs -/
def Bo (B0 : Nat) (W : World) (K : Nat → Prop) (sb rb : Nat) (A : List (Option (List Nat))) (M n : Nat) : Prop :=
  ∃ S l v, St W S sb A M n ∧ Rs B0 W rb A M l v ∧ (∀ k, S k → ¬ Mine5 rb l v k) ∧ (∀ k, S k → B0 ≤ k ∧ k < W.heap.size ∧ K k) ∧ ∀ k, Mine5 rb l v k → K k
theorem chain3 (W : World) (o0 o1 o2 : Obj) : (((W.alloc o0).alloc o1).alloc o2).heap.size = W.heap.size + 3 ∧ (((W.alloc o0).alloc o1).alloc o2).heap[W.heap.size]? = some o0 ∧ (((W.alloc o0).alloc o1).alloc o2).heap[W.heap.size + 1]? = some o1 ∧ (((W.alloc o0).alloc o1).alloc o2).heap[W.heap.size + 2]? = some o2 ∧ Below W.heap.size W (((W.alloc o0).alloc o1).alloc o2) := by
  refine ⟨by simp, ?_, ?_, ?_, ?_⟩
  · repeat rw [Below.heap_alloc _ _ _ (by simp only [World.size_alloc]; omega)]
    exact World.alloc_heap_new W o0
  · repeat rw [Below.heap_alloc _ _ _ (by simp only [World.size_alloc]; omega)]
    have h := World.alloc_heap_new (W.alloc o0) o1
    simp only [World.size_alloc] at h
    exact h
  · have h := World.alloc_heap_new ((W.alloc o0).alloc o1) o2
    simp only [World.size_alloc] at h
    exact h
  exact (((Below.refl _ W).alloc (Nat.le_refl _) _).alloc (by simp only [World.size_alloc]; omega) _).alloc (by simp only [World.size_alloc]; omega) _
/-- act's three boxes -/
structure Bx (W w' : World) (rb : Nat) (a : Si.A6) : Prop where
  c0 : w'.heap[W.heap.size]? = some (.cells #[(Value.pointer (some ⟨rb, 0, none⟩))] 26 (0, 0))
  c1 : w'.heap[W.heap.size + 1]? = some (.cells a.cells.toArray 33 (0, 0))
  c2 : w'.heap[W.heap.size + 2]? = some (.cells #[.bool false] 4 (0, 0))
theorem Bx.on {W w' w'' : World} {rb : Nat} {a : Si.A6} (h : Bx W w' rb a) (hk : ∀ k, W.heap.size ≤ k → k < W.heap.size + 3 → w''.heap[k]? = w'.heap[k]?) : Bx W w'' rb a :=
  ⟨(hk _ (by omega) (by omega)).trans h.c0, (hk _ (by omega) (by omega)).trans h.c1, (hk _ (by omega) (by omega)).trans h.c2⟩
theorem one_ret {fn : Func} {p : Tmp} (h : fn.results = #[.cell p 4]) (tmps : Array Value) (w : World) (b : Nat) (v : Value) (hp : tmps.getD p undef = .pointer (some ⟨b, 0, none⟩)) (hg : w.heap[b]? = some (.cells #[v] 4 (0, 0))) : (results fn tmps).run Try.prog w = .ok v w := by
  have hl := load_b w b v (cell_of_row w b 0 _ _ _ hg)
  have hp' : tmps[p]?.getD undef = .pointer (some ⟨b, 0, none⟩) := by simpa using hp
  simp [results, h, hp', asAddr, hl]
set_option maxRecDepth 100000 in
set_option maxHeartbeats 4000000 in
theorem act1_g {W : World} {sb rb : Nat} (a : Si.A6) (hk : a.what = 1) (y e0 : Int) (J L : World → Prop)
    (h1 : ∀ w', Bx W w' rb a → Below W.heap.size W w' → w'.heap.size = W.heap.size + 3 → Calls Try.prog 11 #[(Value.pointer (some ⟨sb, 0, none⟩)), .int .i64 a.n] w' fun e w'' => e = .returned (.tuple #[.int .i64 y, .int .i64 e0]) ∧ J w'')
    (k1 : ∀ w', J w' → Bx W w' rb a) (h2 : ∀ w', J w' → Calls Try.prog 12 #[(Value.pointer (some ⟨rb, 0, none⟩)), .int .i64 a.n] w' fun e w'' => e = .returned (.tuple #[.int .i64 y, .int .i64 e0]) ∧ L w'') (k2 : ∀ w', L w' → Bx W w' rb a) :
    Calls Try.prog 7 #[(Value.pointer (some ⟨sb, 0, none⟩)), (Value.pointer (some ⟨rb, 0, none⟩)), (Value.agg #[.int .i64 a.what, .int .i64 a.n, .int .i64 a.id, .int .i64 a.off, .int .i64 a.wd, .int .u64 a.x])] W fun e w' => e = .returned (.bool true) ∧ ∃ w'', L w'' ∧ w' = w''.setCell ⟨W.heap.size + 2, 0, none⟩ (.bool true) := by
  obtain ⟨q, n, id, off, wd, x⟩ := a
  simp only at hk h1 h2 ⊢
  subst hk
  have H1 := hid h1
  have H2 := hid h2
  have K1 := hid k1
  have K2 := hid k2
  clear h1 h2 k1 k2
  refine (callsIn_wide (n := 9)).1 ?_
  refine callsIn_of_wp_marks Try.func7 rfl trivial ?_ rfl
  refine wpIn_wide.2 ?_
  simp only [Try.ntmps7, List.size_toArray, List.length_cons, List.length_nil, Nat.reduceAdd, Nat.reduceSub, Array.replicate_succ, Array.replicate_zero, List.push_toArray, List.append_toArray, List.nil_append, List.cons_append]
  go_upto_region 1 with fail
  simp only [Nat.add_assoc, Nat.reduceAdd]
  obtain ⟨z3, d0, d1, d2, b3⟩ := chain3 W (.cells #[(Value.pointer (some ⟨rb, 0, none⟩))] 26) (.cells #[.int .i64 1, .int .i64 n, .int .i64 id, .int .i64 off, .int .i64 wd, .int .u64 x] 33) (.cells #[.bool false] 4)
  generalize (((W.alloc (.cells #[(Value.pointer (some ⟨rb, 0, none⟩))] 26)).alloc (.cells #[.int .i64 1, .int .i64 n, .int .i64 id, .int .i64 off, .int .i64 wd, .int .u64 x] 33)).alloc (.cells #[.bool false] 4)) = W3 at *
  have bx : Bx W W3 rb ⟨1, n, id, off, wd, x⟩ := ⟨d0, d1, d2⟩
  have cc := fun j => cell_of_row _ _ j _ _ _ bx.c1
  have x0 := cc 0
  have x1 := cc 1
  have x2 := cc 2
  have x3 := cc 3
  have x4 := cc 4
  simp [Si.A6.cells] at x0 x1 x2 x3 x4
  have cl := H1.out W3 bx b3 z3
  clear cc d0 d1 d2 b3 z3 bx H1
  go_upto_region 4 with (go_at_call 11; (with_reducible refine cl.mono ?_); rintro e w4 ⟨rfl, hj⟩; clear cl)
  clear x0 x1 x2 x3 x4
  have bx4 := K1.out w4 hj
  have cc := fun j => cell_of_row _ _ j _ _ _ bx4.c1
  have x0 := cc 0
  have x1 := cc 1
  have x2 := cc 2
  have x3 := cc 3
  have x4 := cc 4
  simp [Si.A6.cells] at x0 x1 x2 x3 x4
  have r0 : w4.cell? ⟨W.heap.size, 0, none⟩ = some (Value.pointer (some ⟨rb, 0, none⟩)) := cell_of_row _ _ 0 _ _ _ bx4.c0
  have cl := H2.out w4 hj
  clear cc bx4 H2 K1 hj
  go_upto_region 5 with (go_at_call 12; (with_reducible refine cl.mono ?_); rintro e w5 ⟨rfl, hl⟩; clear cl)
  clear x0 x1 x2 x3 x4 r0
  have bx5 := K2.out w5 hl
  have q2 : w5.cell? ⟨W.heap.size + 2, 0, none⟩ = some (.bool false) := cell_of_row _ _ 0 _ _ _ bx5.c2
  have z2 : w5.frozen? ⟨W.heap.size + 2, 0, none⟩ = false := by simp [World.frozen?, bx5.c2]
  have f2 := heap_set (c := [_]) bx5.c2 0 (.bool true)
  have F2 := hid f2
  have HL := hid hl
  clear bx5 f2 hl K2
  go_wp2
  refine ⟨_, one_ret rfl _ _ (W.heap.size + 2) _ rfl F2.out, rfl, w5, HL.out, rfl⟩
set_option maxRecDepth 100000 in
set_option maxHeartbeats 4000000 in
theorem act3_g {W : World} {sb rb : Nat} (a : Si.A6) (hk : a.what = 3) (y e0 : Int) (J L : World → Prop)
    (h1 : ∀ w', Bx W w' rb a → Below W.heap.size W w' → w'.heap.size = W.heap.size + 3 → Calls Try.prog 15 #[(Value.pointer (some ⟨sb, 0, none⟩)), .int .i64 a.id] w' fun e w'' => e = .returned (.tuple #[.int .i64 y, .int .i64 e0]) ∧ J w'')
    (k1 : ∀ w', J w' → Bx W w' rb a) (h2 : ∀ w', J w' → Calls Try.prog 16 #[(Value.pointer (some ⟨rb, 0, none⟩)), .int .i64 a.id] w' fun e w'' => e = .returned (.tuple #[.int .i64 y, .int .i64 e0]) ∧ L w'') (k2 : ∀ w', L w' → Bx W w' rb a) :
    Calls Try.prog 7 #[(Value.pointer (some ⟨sb, 0, none⟩)), (Value.pointer (some ⟨rb, 0, none⟩)), (Value.agg #[.int .i64 a.what, .int .i64 a.n, .int .i64 a.id, .int .i64 a.off, .int .i64 a.wd, .int .u64 a.x])] W fun e w' => e = .returned (.bool true) ∧ ∃ w'', L w'' ∧ w' = w''.setCell ⟨W.heap.size + 2, 0, none⟩ (.bool true) := by
  obtain ⟨q, n, id, off, wd, x⟩ := a
  simp only at hk h1 h2 ⊢
  subst hk
  have H1 := hid h1
  have H2 := hid h2
  have K1 := hid k1
  have K2 := hid k2
  clear h1 h2 k1 k2
  refine (callsIn_wide (n := 9)).1 ?_
  refine callsIn_of_wp_marks Try.func7 rfl trivial ?_ rfl
  refine wpIn_wide.2 ?_
  simp only [Try.ntmps7, List.size_toArray, List.length_cons, List.length_nil, Nat.reduceAdd, Nat.reduceSub, Array.replicate_succ, Array.replicate_zero, List.push_toArray, List.append_toArray, List.nil_append, List.cons_append]
  go_upto_region 1 with fail
  simp only [Nat.add_assoc, Nat.reduceAdd]
  obtain ⟨z3, d0, d1, d2, b3⟩ := chain3 W (.cells #[(Value.pointer (some ⟨rb, 0, none⟩))] 26) (.cells #[.int .i64 3, .int .i64 n, .int .i64 id, .int .i64 off, .int .i64 wd, .int .u64 x] 33) (.cells #[.bool false] 4)
  generalize (((W.alloc (.cells #[(Value.pointer (some ⟨rb, 0, none⟩))] 26)).alloc (.cells #[.int .i64 3, .int .i64 n, .int .i64 id, .int .i64 off, .int .i64 wd, .int .u64 x] 33)).alloc (.cells #[.bool false] 4)) = W3 at *
  have bx : Bx W W3 rb ⟨3, n, id, off, wd, x⟩ := ⟨d0, d1, d2⟩
  have cc := fun j => cell_of_row _ _ j _ _ _ bx.c1
  have x0 := cc 0
  have x1 := cc 1
  have x2 := cc 2
  have x3 := cc 3
  have x4 := cc 4
  simp [Si.A6.cells] at x0 x1 x2 x3 x4
  have cl := H1.out W3 bx b3 z3
  clear cc d0 d1 d2 b3 z3 bx H1
  go_upto_region 10 with (go_at_call 15; (with_reducible refine cl.mono ?_); rintro e w4 ⟨rfl, hj⟩; clear cl)
  clear x0 x1 x2 x3 x4
  have bx4 := K1.out w4 hj
  have cc := fun j => cell_of_row _ _ j _ _ _ bx4.c1
  have x0 := cc 0
  have x1 := cc 1
  have x2 := cc 2
  have x3 := cc 3
  have x4 := cc 4
  simp [Si.A6.cells] at x0 x1 x2 x3 x4
  have r0 : w4.cell? ⟨W.heap.size, 0, none⟩ = some (Value.pointer (some ⟨rb, 0, none⟩)) := cell_of_row _ _ 0 _ _ _ bx4.c0
  have cl := H2.out w4 hj
  clear cc bx4 H2 K1 hj
  go_upto_region 11 with (go_at_call 16; (with_reducible refine cl.mono ?_); rintro e w5 ⟨rfl, hl⟩; clear cl)
  clear x0 x1 x2 x3 x4 r0
  have bx5 := K2.out w5 hl
  have q2 : w5.cell? ⟨W.heap.size + 2, 0, none⟩ = some (.bool false) := cell_of_row _ _ 0 _ _ _ bx5.c2
  have z2 : w5.frozen? ⟨W.heap.size + 2, 0, none⟩ = false := by simp [World.frozen?, bx5.c2]
  have f2 := heap_set (c := [_]) bx5.c2 0 (.bool true)
  have F2 := hid f2
  have HL := hid hl
  clear bx5 f2 hl K2
  go_wp2
  refine ⟨_, one_ret rfl _ _ (W.heap.size + 2) _ rfl F2.out, rfl, w5, HL.out, rfl⟩
set_option maxRecDepth 100000 in
set_option maxHeartbeats 4000000 in
theorem act4_g {W : World} {sb rb : Nat} (a : Si.A6) (hk : a.what = 4) (y e0 : Int) (J L : World → Prop)
    (h1 : ∀ w', Bx W w' rb a → Below W.heap.size W w' → w'.heap.size = W.heap.size + 3 → Calls Try.prog 17 #[(Value.pointer (some ⟨sb, 0, none⟩)), .int .i64 a.id, .int .i64 a.off, .int .i64 a.wd] w' fun e w'' => e = .returned (.tuple #[.int .u64 y, .int .i64 e0]) ∧ J w'')
    (k1 : ∀ w', J w' → Bx W w' rb a) (h2 : ∀ w', J w' → Calls Try.prog 18 #[(Value.pointer (some ⟨rb, 0, none⟩)), .int .i64 a.id, .int .i64 a.off, .int .i64 a.wd] w' fun e w'' => e = .returned (.tuple #[.int .u64 y, .int .i64 e0]) ∧ L w'') (k2 : ∀ w', L w' → Bx W w' rb a) :
    Calls Try.prog 7 #[(Value.pointer (some ⟨sb, 0, none⟩)), (Value.pointer (some ⟨rb, 0, none⟩)), (Value.agg #[.int .i64 a.what, .int .i64 a.n, .int .i64 a.id, .int .i64 a.off, .int .i64 a.wd, .int .u64 a.x])] W fun e w' => e = .returned (.bool true) ∧ ∃ w'', L w'' ∧ w' = w''.setCell ⟨W.heap.size + 2, 0, none⟩ (.bool true) := by
  obtain ⟨q, n, id, off, wd, x⟩ := a
  simp only at hk h1 h2 ⊢
  subst hk
  have H1 := hid h1
  have H2 := hid h2
  have K1 := hid k1
  have K2 := hid k2
  clear h1 h2 k1 k2
  refine (callsIn_wide (n := 9)).1 ?_
  refine callsIn_of_wp_marks Try.func7 rfl trivial ?_ rfl
  refine wpIn_wide.2 ?_
  simp only [Try.ntmps7, List.size_toArray, List.length_cons, List.length_nil, Nat.reduceAdd, Nat.reduceSub, Array.replicate_succ, Array.replicate_zero, List.push_toArray, List.append_toArray, List.nil_append, List.cons_append]
  go_upto_region 1 with fail
  simp only [Nat.add_assoc, Nat.reduceAdd]
  obtain ⟨z3, d0, d1, d2, b3⟩ := chain3 W (.cells #[(Value.pointer (some ⟨rb, 0, none⟩))] 26) (.cells #[.int .i64 4, .int .i64 n, .int .i64 id, .int .i64 off, .int .i64 wd, .int .u64 x] 33) (.cells #[.bool false] 4)
  generalize (((W.alloc (.cells #[(Value.pointer (some ⟨rb, 0, none⟩))] 26)).alloc (.cells #[.int .i64 4, .int .i64 n, .int .i64 id, .int .i64 off, .int .i64 wd, .int .u64 x] 33)).alloc (.cells #[.bool false] 4)) = W3 at *
  have bx : Bx W W3 rb ⟨4, n, id, off, wd, x⟩ := ⟨d0, d1, d2⟩
  have cc := fun j => cell_of_row _ _ j _ _ _ bx.c1
  have x0 := cc 0
  have x1 := cc 1
  have x2 := cc 2
  have x3 := cc 3
  have x4 := cc 4
  simp [Si.A6.cells] at x0 x1 x2 x3 x4
  have cl := H1.out W3 bx b3 z3
  clear cc d0 d1 d2 b3 z3 bx H1
  go_upto_region 14 with (go_at_call 17; (with_reducible refine cl.mono ?_); rintro e w4 ⟨rfl, hj⟩; clear cl)
  clear x0 x1 x2 x3 x4
  have bx4 := K1.out w4 hj
  have cc := fun j => cell_of_row _ _ j _ _ _ bx4.c1
  have x0 := cc 0
  have x1 := cc 1
  have x2 := cc 2
  have x3 := cc 3
  have x4 := cc 4
  simp [Si.A6.cells] at x0 x1 x2 x3 x4
  have r0 : w4.cell? ⟨W.heap.size, 0, none⟩ = some (Value.pointer (some ⟨rb, 0, none⟩)) := cell_of_row _ _ 0 _ _ _ bx4.c0
  have cl := H2.out w4 hj
  clear cc bx4 H2 K1 hj
  go_upto_region 15 with (go_at_call 18; (with_reducible refine cl.mono ?_); rintro e w5 ⟨rfl, hl⟩; clear cl)
  clear x0 x1 x2 x3 x4 r0
  have bx5 := K2.out w5 hl
  have q2 : w5.cell? ⟨W.heap.size + 2, 0, none⟩ = some (.bool false) := cell_of_row _ _ 0 _ _ _ bx5.c2
  have z2 : w5.frozen? ⟨W.heap.size + 2, 0, none⟩ = false := by simp [World.frozen?, bx5.c2]
  have f2 := heap_set (c := [_]) bx5.c2 0 (.bool true)
  have F2 := hid f2
  have HL := hid hl
  clear bx5 f2 hl K2
  go_wp2
  refine ⟨_, one_ret rfl _ _ (W.heap.size + 2) _ rfl F2.out, rfl, w5, HL.out, rfl⟩
end Go.Proofs.Ytmeoonnofiicpaa.W.R5
