import Derived.Test.YtenpopelbmeemaaGreatBase28
import Derived.Test.YtenpopelbmeemaaGreatBase26
/- Package buf: the pairs: raw, octets and shorts, doubles and narrows. -/
namespace Go.Proofs.YtenpopelbmeemaaGreat.W
open Go.ChangeShapes Go.WideShapes Go.RowKit Go.Shelf
set_option linter.unusedVariables false
/-- the boxes of raw's two functions -/
structure RawAt (W : World) (Bh Bx Bd hb w wd : Nat) : Prop where
  h : Boxed W Bh 23 (.pointer (some ⟨hb, 0, none⟩))
  x : Boxed W Bx 22 (.int .u64 (w : Nat))
  d : Boxed W Bd 3 (.int .i64 (wd : Nat))
/-- the boxes of a pair -/
structure PairAt (W : World) (Br Bw hb w wd : Nat) : Prop where
  ex : ∃ Bh Bx Bd, RawAt W Bh Bx Bd hb w wd ∧ Boxed W Br 74 (.func (.func 131) #[] #[.pointer (some ⟨Bh, 0, none⟩), .pointer (some ⟨Bx, 0, none⟩), .pointer (some ⟨Bd, 0, none⟩)]) ∧ Boxed W Bw 143 (.func (.func 133) #[] #[.pointer (some ⟨Bh, 0, none⟩), .pointer (some ⟨Bx, 0, none⟩), .pointer (some ⟨Bd, 0, none⟩)])
theorem RawAt.below {W W' : World} {Bh Bx Bd hb w wd : Nat} (r : RawAt W Bh Bx Bd hb w wd) (hB : Below W.heap.size W W') : RawAt W' Bh Bx Bd hb w wd :=
  ⟨box_of (hB.block _ r.h.lt) r.h, box_of (hB.block _ r.x.lt) r.x, box_of (hB.block _ r.d.lt) r.d⟩
theorem PairAt.below {W W' : World} {Br Bw hb w wd : Nat} (r : PairAt W Br Bw hb w wd) (hB : Below W.heap.size W W') : PairAt W' Br Bw hb w wd := by
  obtain ⟨Bh, Bx, Bd, h1, h2, h3⟩ := r.ex
  exact ⟨Bh, Bx, Bd, h1.below hB, box_of (hB.block _ h2.lt) h2, box_of (hB.block _ h3.lt) h3⟩
theorem raw_c (W : World) (hb w wd : Nat) : Calls Tryz.prog 96 #[.pointer (some ⟨hb, 0, none⟩), .int .u64 (w : Nat), .int .i64 (wd : Nat)] W fun e w' => ∃ Bh Bx Bd, e = .returned (.tuple #[(.func (.func 131) #[] #[.pointer (some ⟨Bh, 0, none⟩), .pointer (some ⟨Bx, 0, none⟩), .pointer (some ⟨Bd, 0, none⟩)]), (.func (.func 133) #[] #[.pointer (some ⟨Bh, 0, none⟩), .pointer (some ⟨Bx, 0, none⟩), .pointer (some ⟨Bd, 0, none⟩)])]) ∧ Below W.heap.size W w' ∧ RawAt w' Bh Bx Bd hb w wd := by
  have b1 : Below W.heap.size W (W.alloc (.cells #[.pointer (some ⟨hb, 0, none⟩)] 23)) := (Below.refl _ W).alloc (Nat.le_refl _) _
  have s1 : (W.alloc (.cells #[.pointer (some ⟨hb, 0, none⟩)] 23)).heap.size = W.heap.size + 1 := World.size_alloc ..
  have x1 := Boxed.new W 23 (.pointer (some ⟨hb, 0, none⟩))
  generalize hW1 : W.alloc (.cells #[.pointer (some ⟨hb, 0, none⟩)] 23) = W1 at *
  have b2 : Below W1.heap.size W1 (W1.alloc (.cells #[.int .u64 (w : Nat)] 22)) := (Below.refl _ W1).alloc (Nat.le_refl _) _
  have s2 : (W1.alloc (.cells #[.int .u64 (w : Nat)] 22)).heap.size = W.heap.size + 2 := by rw [World.size_alloc, s1]
  have x2 := Boxed.new W1 22 (.int .u64 (w : Nat))
  generalize hW2 : W1.alloc (.cells #[.int .u64 (w : Nat)] 22) = W2 at *
  have b3 : Below W2.heap.size W2 (W2.alloc (.cells #[.int .i64 (wd : Nat)] 3)) := (Below.refl _ W2).alloc (Nat.le_refl _) _
  have x3 := Boxed.new W2 3 (.int .i64 (wd : Nat))
  have fin : Hid (Below W.heap.size W (W2.alloc (.cells #[.int .i64 (wd : Nat)] 3)) ∧ RawAt (W2.alloc (.cells #[.int .i64 (wd : Nat)] 3)) W.heap.size (W.heap.size + 1) (W.heap.size + 1 + 1) hb w wd) := by
    have z1 := b1.size
    have z2 := b2.size
    refine ⟨(b1.trans (b2.mono z1)).trans (b3.mono (by omega)), box_of (b3.block _ (by omega)) (box_of (b2.block _ (by omega)) x1), ?_, ?_⟩
    · rw [s1] at x2; exact box_of (b3.block _ (by omega)) x2
    · rw [s2] at x3; exact x3
  rw [← hW2, ← hW1] at fin
  clear x1 x2 x3 b1 b2 b3 s1 s2 hW1 hW2
  go_enter Tryz.func96, Tryz.ntmps96
  go_wp2
  go_ret2
  exact ⟨_, _, _, rfl, fin.out.1, fin.out.2⟩
theorem pairT : (Tryz.prog.underlying 77).map (fun d => match d with | .struct _ | .array _ _ => true | _ => false) = some true := by kernel_rfl
theorem pairSz : (Tryz.prog.info? 77).map (·.size) = some 2 := by kernel_rfl
theorem pair_ret {fn : Func} {p : Tmp} (h : fn.results = #[.cell p 77]) (tmps : Array Value) (w : World) (gb : Nat) (v0 v1 : Value) (fr : Nat × Nat) (hp : tmps.getD p undef = .pointer (some ⟨gb, 0, none⟩)) (hg : w.heap[gb]? = some (.cells #[v0, v1] 77 fr)) : (results fn tmps).run Tryz.prog w = .ok (.agg #[v0, v1]) w := by
  have ht := pairT
  cases hu : Tryz.prog.underlying 77 with
  | none => rw [hu] at ht; cases ht
  | some d =>
    rw [hu] at ht
    simp only [Option.map_some, Option.some.injEq] at ht
    refine results_cell_row h tmps w gb _ _ fr d hp hg hu ?_ (by rw [pairSz]; rfl)
    cases d <;> first | rfl | exact ht
theorem two_set {w : World} {gb : Nat} {z0 z1 : Value} {t : TypeId} (hg : w.heap[gb]? = some (.cells #[z0, z1] t (0, 0))) (v0 v1 : Value) : ((w.setCell ⟨gb, 0, none⟩ v0).setCell ⟨gb, 1, none⟩ v1).heap[gb]? = some (.cells #[v0, v1] t (0, 0)) := by
  have h0 : w.heap[gb]? = some (.cells [z0, z1].toArray t (0, 0)) := hg
  exact heap_set (heap_set h0 0 v0) 1 v1
theorem two_below {w a : World} {gb B : Nat} (h : Below B a w) (hB : B ≤ gb) (v0 v1 : Value) : Below B a ((w.setCell ⟨gb, 0, none⟩ v0).setCell ⟨gb, 1, none⟩ v1) := (h.setCell (p := ⟨gb, 0, none⟩) hB v0).setCell (p := ⟨gb, 1, none⟩) hB v1
theorem two_far (w : World) (gb : Nat) (v0 v1 : Value) (k : Nat) (h : k ≠ gb) : ((w.setCell ⟨gb, 0, none⟩ v0).setCell ⟨gb, 1, none⟩ v1).heap[k]? = w.heap[k]? := by
  rw [Below.heap_setCell _ _ _ _ h, Below.heap_setCell _ _ _ _ h]
theorem octets_c (W : World) (hb w : Nat) : Calls Tryz.prog 65 #[.pointer (some ⟨hb, 0, none⟩), .int .u64 (w : Nat)] W fun e w' => ∃ Br Bw, e = .returned (.agg #[.func (.func 108) #[] #[.pointer (some ⟨Br, 0, none⟩)], .func (.func 109) #[] #[.pointer (some ⟨Bw, 0, none⟩)]]) ∧ Below W.heap.size W w' ∧ PairAt w' Br Bw hb w 1 := by
  have hB1 : Below W.heap.size W (W.alloc (.cells #[.nilFunc, .nilFunc] 77)) := (Below.refl _ W).alloc (Nat.le_refl _) _
  have hs1 : (W.alloc (.cells #[.nilFunc, .nilFunc] 77)).heap.size = W.heap.size + 1 := World.size_alloc ..
  have f1 := World.alloc_heap_new W (.cells #[.nilFunc, .nilFunc] 77)
  have cw := fun w => width_c 8 w
  rw [show ((elB 8 : Nat) : Int) = 1 from rfl] at cw
  have cr := fun W => raw_c W hb w 1
  rw [show ((1 : Nat) : Int) = 1 from rfl] at cr
  generalize hW1 : W.alloc (.cells #[.nilFunc, .nilFunc] 77) = W1 at *
  go_enter Tryz.func65, Tryz.ntmps65
  go_upto_region 2 with (first | (go_at_call 18; (with_reducible refine (cw _).mono ?_); rintro e w' ⟨rfl, hw⟩; (have hw' := hw.symm); subst hw'; clear hw) | (go_at_call 96; (with_reducible refine (cr _).mono ?_); rintro e w2 ⟨Bh, Bx, Bd, rfl, hB2, hR2⟩))
  have b3 : Below w2.heap.size w2 (w2.alloc (.cells #[(.func (.func 131) #[] #[.pointer (some ⟨Bh, 0, none⟩), .pointer (some ⟨Bx, 0, none⟩), .pointer (some ⟨Bd, 0, none⟩)])] 74)) := (Below.refl _ w2).alloc (Nat.le_refl _) _
  have s3 : (w2.alloc (.cells #[(.func (.func 131) #[] #[.pointer (some ⟨Bh, 0, none⟩), .pointer (some ⟨Bx, 0, none⟩), .pointer (some ⟨Bd, 0, none⟩)])] 74)).heap.size = w2.heap.size + 1 := World.size_alloc ..
  have x3 := Boxed.new w2 74 (.func (.func 131) #[] #[.pointer (some ⟨Bh, 0, none⟩), .pointer (some ⟨Bx, 0, none⟩), .pointer (some ⟨Bd, 0, none⟩)])
  have hR3 := hR2.below b3
  generalize w2.alloc (.cells #[(.func (.func 131) #[] #[.pointer (some ⟨Bh, 0, none⟩), .pointer (some ⟨Bx, 0, none⟩), .pointer (some ⟨Bd, 0, none⟩)])] 74) = w3 at *
  have b4 : Below w3.heap.size w3 (w3.alloc (.cells #[(.func (.func 133) #[] #[.pointer (some ⟨Bh, 0, none⟩), .pointer (some ⟨Bx, 0, none⟩), .pointer (some ⟨Bd, 0, none⟩)])] 143)) := (Below.refl _ w3).alloc (Nat.le_refl _) _
  have x4 := Boxed.new w3 143 (.func (.func 133) #[] #[.pointer (some ⟨Bh, 0, none⟩), .pointer (some ⟨Bx, 0, none⟩), .pointer (some ⟨Bd, 0, none⟩)])
  rw [s3] at x4
  have hR4 := hR3.below b4
  have x34 := box_of (b4.block _ x3.lt) x3
  generalize w3.alloc (.cells #[(.func (.func 133) #[] #[.pointer (some ⟨Bh, 0, none⟩), .pointer (some ⟨Bx, 0, none⟩), .pointer (some ⟨Bd, 0, none⟩)])] 143) = w4 at *
  have z2 := hB2.size
  have z3 := b3.size
  have f4 : w4.heap[W.heap.size]? = some (.cells #[.nilFunc, .nilFunc] 77) := (b4.block W.heap.size (by omega)).trans ((b3.block _ (by omega)).trans ((hB2.block _ (by omega)).trans f1))
  have hbel : Below W.heap.size W w4 := ((hB1.trans (hB2.mono hB1.size)).trans (b3.mono (by omega))).trans (b4.mono (by omega))
  have eR := fun j => cell_of_row w4 W.heap.size j _ _ _ f4
  have zR : ∀ j, w4.frozen? ⟨W.heap.size, j, none⟩ = false := fun j => by simp [World.frozen?, f4]
  have n1 : w2.heap.size ≠ W.heap.size := by omega
  have n2 : w2.heap.size + 1 ≠ W.heap.size := by omega
  have n3 : Bh ≠ W.heap.size ∧ Bx ≠ W.heap.size ∧ Bd ≠ W.heap.size := by
    refine ⟨fun e => ?_, fun e => ?_, fun e => ?_⟩
    · have := hR4.h; rw [e] at this; unfold Boxed at this; rw [f4] at this; simp at this
    · have := hR4.x; rw [e] at this; unfold Boxed at this; rw [f4] at this; simp at this
    · have := hR4.d; rw [e] at this; unfold Boxed at this; rw [f4] at this; simp at this
  have FR := hid f4
  have HB := hid hbel
  have HR := hid hR4
  have X3 := hid x34
  have X4 := hid x4
  have NN := hid (And.intro n1 (And.intro n2 n3))
  clear f4 hbel hR4 x34 x4 x3 hR3 hR2 b3 b4 hB2 s3 z2 z3 n1 n2 n3 f1 hs1 hB1
  go_wp2
  refine bodyPost_ret (pair_ret rfl _ _ W.heap.size _ _ (0, 0) rfl (two_set FR.out _ _)) rfl ?_
  refine ⟨_, _, rfl, two_below HB.out (Nat.le_refl _) _ _, Bh, Bx, Bd, ⟨?_, ?_, ?_⟩, ?_, ?_⟩
  · exact box_of (two_far _ _ _ _ _ NN.out.2.2.1) HR.out.h
  · exact box_of (two_far _ _ _ _ _ NN.out.2.2.2.1) HR.out.x
  · exact box_of (two_far _ _ _ _ _ NN.out.2.2.2.2) HR.out.d
  · exact box_of (two_far _ _ _ _ _ NN.out.1) X3.out
  · exact box_of (two_far _ _ _ _ _ NN.out.2.1) X4.out
theorem shorts_c (W : World) (hb w : Nat) : Calls Tryz.prog 64 #[.pointer (some ⟨hb, 0, none⟩), .int .u64 (w : Nat)] W fun e w' => ∃ Br Bw, e = .returned (.agg #[.func (.func 104) #[] #[.pointer (some ⟨Br, 0, none⟩)], .func (.func 106) #[] #[.pointer (some ⟨Bw, 0, none⟩)]]) ∧ Below W.heap.size W w' ∧ PairAt w' Br Bw hb w 2 := by
  have hB1 : Below W.heap.size W (W.alloc (.cells #[.nilFunc, .nilFunc] 77)) := (Below.refl _ W).alloc (Nat.le_refl _) _
  have hs1 : (W.alloc (.cells #[.nilFunc, .nilFunc] 77)).heap.size = W.heap.size + 1 := World.size_alloc ..
  have f1 := World.alloc_heap_new W (.cells #[.nilFunc, .nilFunc] 77)
  have cw := fun w => width_c 7 w
  rw [show ((elB 7 : Nat) : Int) = 2 from rfl] at cw
  have cr := fun W => raw_c W hb w 2
  rw [show ((2 : Nat) : Int) = 2 from rfl] at cr
  generalize hW1 : W.alloc (.cells #[.nilFunc, .nilFunc] 77) = W1 at *
  go_enter Tryz.func64, Tryz.ntmps64
  go_upto_region 2 with (first | (go_at_call 18; (with_reducible refine (cw _).mono ?_); rintro e w' ⟨rfl, hw⟩; (have hw' := hw.symm); subst hw'; clear hw) | (go_at_call 96; (with_reducible refine (cr _).mono ?_); rintro e w2 ⟨Bh, Bx, Bd, rfl, hB2, hR2⟩))
  have b3 : Below w2.heap.size w2 (w2.alloc (.cells #[(.func (.func 131) #[] #[.pointer (some ⟨Bh, 0, none⟩), .pointer (some ⟨Bx, 0, none⟩), .pointer (some ⟨Bd, 0, none⟩)])] 74)) := (Below.refl _ w2).alloc (Nat.le_refl _) _
  have s3 : (w2.alloc (.cells #[(.func (.func 131) #[] #[.pointer (some ⟨Bh, 0, none⟩), .pointer (some ⟨Bx, 0, none⟩), .pointer (some ⟨Bd, 0, none⟩)])] 74)).heap.size = w2.heap.size + 1 := World.size_alloc ..
  have x3 := Boxed.new w2 74 (.func (.func 131) #[] #[.pointer (some ⟨Bh, 0, none⟩), .pointer (some ⟨Bx, 0, none⟩), .pointer (some ⟨Bd, 0, none⟩)])
  have hR3 := hR2.below b3
  generalize w2.alloc (.cells #[(.func (.func 131) #[] #[.pointer (some ⟨Bh, 0, none⟩), .pointer (some ⟨Bx, 0, none⟩), .pointer (some ⟨Bd, 0, none⟩)])] 74) = w3 at *
  have b4 : Below w3.heap.size w3 (w3.alloc (.cells #[(.func (.func 133) #[] #[.pointer (some ⟨Bh, 0, none⟩), .pointer (some ⟨Bx, 0, none⟩), .pointer (some ⟨Bd, 0, none⟩)])] 143)) := (Below.refl _ w3).alloc (Nat.le_refl _) _
  have x4 := Boxed.new w3 143 (.func (.func 133) #[] #[.pointer (some ⟨Bh, 0, none⟩), .pointer (some ⟨Bx, 0, none⟩), .pointer (some ⟨Bd, 0, none⟩)])
  rw [s3] at x4
  have hR4 := hR3.below b4
  have x34 := box_of (b4.block _ x3.lt) x3
  generalize w3.alloc (.cells #[(.func (.func 133) #[] #[.pointer (some ⟨Bh, 0, none⟩), .pointer (some ⟨Bx, 0, none⟩), .pointer (some ⟨Bd, 0, none⟩)])] 143) = w4 at *
  have z2 := hB2.size
  have z3 := b3.size
  have f4 : w4.heap[W.heap.size]? = some (.cells #[.nilFunc, .nilFunc] 77) := (b4.block W.heap.size (by omega)).trans ((b3.block _ (by omega)).trans ((hB2.block _ (by omega)).trans f1))
  have hbel : Below W.heap.size W w4 := ((hB1.trans (hB2.mono hB1.size)).trans (b3.mono (by omega))).trans (b4.mono (by omega))
  have eR := fun j => cell_of_row w4 W.heap.size j _ _ _ f4
  have zR : ∀ j, w4.frozen? ⟨W.heap.size, j, none⟩ = false := fun j => by simp [World.frozen?, f4]
  have n1 : w2.heap.size ≠ W.heap.size := by omega
  have n2 : w2.heap.size + 1 ≠ W.heap.size := by omega
  have n3 : Bh ≠ W.heap.size ∧ Bx ≠ W.heap.size ∧ Bd ≠ W.heap.size := by
    refine ⟨fun e => ?_, fun e => ?_, fun e => ?_⟩
    · have := hR4.h; rw [e] at this; unfold Boxed at this; rw [f4] at this; simp at this
    · have := hR4.x; rw [e] at this; unfold Boxed at this; rw [f4] at this; simp at this
    · have := hR4.d; rw [e] at this; unfold Boxed at this; rw [f4] at this; simp at this
  have FR := hid f4
  have HB := hid hbel
  have HR := hid hR4
  have X3 := hid x34
  have X4 := hid x4
  have NN := hid (And.intro n1 (And.intro n2 n3))
  clear f4 hbel hR4 x34 x4 x3 hR3 hR2 b3 b4 hB2 s3 z2 z3 n1 n2 n3 f1 hs1 hB1
  go_wp2
  refine bodyPost_ret (pair_ret rfl _ _ W.heap.size _ _ (0, 0) rfl (two_set FR.out _ _)) rfl ?_
  refine ⟨_, _, rfl, two_below HB.out (Nat.le_refl _) _ _, Bh, Bx, Bd, ⟨?_, ?_, ?_⟩, ?_, ?_⟩
  · exact box_of (two_far _ _ _ _ _ NN.out.2.2.1) HR.out.h
  · exact box_of (two_far _ _ _ _ _ NN.out.2.2.2.1) HR.out.x
  · exact box_of (two_far _ _ _ _ _ NN.out.2.2.2.2) HR.out.d
  · exact box_of (two_far _ _ _ _ _ NN.out.1) X3.out
  · exact box_of (two_far _ _ _ _ _ NN.out.2.1) X4.out
theorem doubles_c (W : World) (hb w : Nat) : Calls Tryz.prog 62 #[.pointer (some ⟨hb, 0, none⟩), .int .u64 (w : Nat)] W fun e w' => ∃ Br Bw, e = .returned (.agg #[.func (.func 97) #[] #[.pointer (some ⟨Br, 0, none⟩)], .func (.func 98) #[] #[.pointer (some ⟨Bw, 0, none⟩)]]) ∧ Below W.heap.size W w' ∧ PairAt w' Br Bw hb w 8 := by
  have hB1 : Below W.heap.size W (W.alloc (.cells #[.nilFunc, .nilFunc] 77)) := (Below.refl _ W).alloc (Nat.le_refl _) _
  have hs1 : (W.alloc (.cells #[.nilFunc, .nilFunc] 77)).heap.size = W.heap.size + 1 := World.size_alloc ..
  have f1 := World.alloc_heap_new W (.cells #[.nilFunc, .nilFunc] 77)
  have cw := fun w => width_c 5 w
  rw [show ((elB 5 : Nat) : Int) = 8 from rfl] at cw
  have cr := fun W => raw_c W hb w 8
  rw [show ((8 : Nat) : Int) = 8 from rfl] at cr
  generalize hW1 : W.alloc (.cells #[.nilFunc, .nilFunc] 77) = W1 at *
  go_enter Tryz.func62, Tryz.ntmps62
  go_upto_region 2 with (first | (go_at_call 18; (with_reducible refine (cw _).mono ?_); rintro e w' ⟨rfl, hw⟩; (have hw' := hw.symm); subst hw'; clear hw) | (go_at_call 96; (with_reducible refine (cr _).mono ?_); rintro e w2 ⟨Bh, Bx, Bd, rfl, hB2, hR2⟩))
  have b3 : Below w2.heap.size w2 (w2.alloc (.cells #[(.func (.func 131) #[] #[.pointer (some ⟨Bh, 0, none⟩), .pointer (some ⟨Bx, 0, none⟩), .pointer (some ⟨Bd, 0, none⟩)])] 74)) := (Below.refl _ w2).alloc (Nat.le_refl _) _
  have s3 : (w2.alloc (.cells #[(.func (.func 131) #[] #[.pointer (some ⟨Bh, 0, none⟩), .pointer (some ⟨Bx, 0, none⟩), .pointer (some ⟨Bd, 0, none⟩)])] 74)).heap.size = w2.heap.size + 1 := World.size_alloc ..
  have x3 := Boxed.new w2 74 (.func (.func 131) #[] #[.pointer (some ⟨Bh, 0, none⟩), .pointer (some ⟨Bx, 0, none⟩), .pointer (some ⟨Bd, 0, none⟩)])
  have hR3 := hR2.below b3
  generalize w2.alloc (.cells #[(.func (.func 131) #[] #[.pointer (some ⟨Bh, 0, none⟩), .pointer (some ⟨Bx, 0, none⟩), .pointer (some ⟨Bd, 0, none⟩)])] 74) = w3 at *
  have b4 : Below w3.heap.size w3 (w3.alloc (.cells #[(.func (.func 133) #[] #[.pointer (some ⟨Bh, 0, none⟩), .pointer (some ⟨Bx, 0, none⟩), .pointer (some ⟨Bd, 0, none⟩)])] 143)) := (Below.refl _ w3).alloc (Nat.le_refl _) _
  have x4 := Boxed.new w3 143 (.func (.func 133) #[] #[.pointer (some ⟨Bh, 0, none⟩), .pointer (some ⟨Bx, 0, none⟩), .pointer (some ⟨Bd, 0, none⟩)])
  rw [s3] at x4
  have hR4 := hR3.below b4
  have x34 := box_of (b4.block _ x3.lt) x3
  generalize w3.alloc (.cells #[(.func (.func 133) #[] #[.pointer (some ⟨Bh, 0, none⟩), .pointer (some ⟨Bx, 0, none⟩), .pointer (some ⟨Bd, 0, none⟩)])] 143) = w4 at *
  have z2 := hB2.size
  have z3 := b3.size
  have f4 : w4.heap[W.heap.size]? = some (.cells #[.nilFunc, .nilFunc] 77) := (b4.block W.heap.size (by omega)).trans ((b3.block _ (by omega)).trans ((hB2.block _ (by omega)).trans f1))
  have hbel : Below W.heap.size W w4 := ((hB1.trans (hB2.mono hB1.size)).trans (b3.mono (by omega))).trans (b4.mono (by omega))
  have eR := fun j => cell_of_row w4 W.heap.size j _ _ _ f4
  have zR : ∀ j, w4.frozen? ⟨W.heap.size, j, none⟩ = false := fun j => by simp [World.frozen?, f4]
  have n1 : w2.heap.size ≠ W.heap.size := by omega
  have n2 : w2.heap.size + 1 ≠ W.heap.size := by omega
  have n3 : Bh ≠ W.heap.size ∧ Bx ≠ W.heap.size ∧ Bd ≠ W.heap.size := by
    refine ⟨fun e => ?_, fun e => ?_, fun e => ?_⟩
    · have := hR4.h; rw [e] at this; unfold Boxed at this; rw [f4] at this; simp at this
    · have := hR4.x; rw [e] at this; unfold Boxed at this; rw [f4] at this; simp at this
    · have := hR4.d; rw [e] at this; unfold Boxed at this; rw [f4] at this; simp at this
  have FR := hid f4
  have HB := hid hbel
  have HR := hid hR4
  have X3 := hid x34
  have X4 := hid x4
  have NN := hid (And.intro n1 (And.intro n2 n3))
  clear f4 hbel hR4 x34 x4 x3 hR3 hR2 b3 b4 hB2 s3 z2 z3 n1 n2 n3 f1 hs1 hB1
  go_wp2
  refine bodyPost_ret (pair_ret rfl _ _ W.heap.size _ _ (0, 0) rfl (two_set FR.out _ _)) rfl ?_
  refine ⟨_, _, rfl, two_below HB.out (Nat.le_refl _) _ _, Bh, Bx, Bd, ⟨?_, ?_, ?_⟩, ?_, ?_⟩
  · exact box_of (two_far _ _ _ _ _ NN.out.2.2.1) HR.out.h
  · exact box_of (two_far _ _ _ _ _ NN.out.2.2.2.1) HR.out.x
  · exact box_of (two_far _ _ _ _ _ NN.out.2.2.2.2) HR.out.d
  · exact box_of (two_far _ _ _ _ _ NN.out.1) X3.out
  · exact box_of (two_far _ _ _ _ _ NN.out.2.1) X4.out
theorem narrows_c (W : World) (hb w : Nat) : Calls Tryz.prog 63 #[.pointer (some ⟨hb, 0, none⟩), .int .u64 (w : Nat)] W fun e w' => ∃ Br Bw, e = .returned (.agg #[.func (.func 100) #[] #[.pointer (some ⟨Br, 0, none⟩)], .func (.func 102) #[] #[.pointer (some ⟨Bw, 0, none⟩)]]) ∧ Below W.heap.size W w' ∧ PairAt w' Br Bw hb w 4 := by
  have hB1 : Below W.heap.size W (W.alloc (.cells #[.nilFunc, .nilFunc] 77)) := (Below.refl _ W).alloc (Nat.le_refl _) _
  have hs1 : (W.alloc (.cells #[.nilFunc, .nilFunc] 77)).heap.size = W.heap.size + 1 := World.size_alloc ..
  have f1 := World.alloc_heap_new W (.cells #[.nilFunc, .nilFunc] 77)
  have cw := fun w => width_c 6 w
  rw [show ((elB 6 : Nat) : Int) = 4 from rfl] at cw
  have cr := fun W => raw_c W hb w 4
  rw [show ((4 : Nat) : Int) = 4 from rfl] at cr
  generalize hW1 : W.alloc (.cells #[.nilFunc, .nilFunc] 77) = W1 at *
  go_enter Tryz.func63, Tryz.ntmps63
  go_upto_region 2 with (first | (go_at_call 18; (with_reducible refine (cw _).mono ?_); rintro e w' ⟨rfl, hw⟩; (have hw' := hw.symm); subst hw'; clear hw) | (go_at_call 96; (with_reducible refine (cr _).mono ?_); rintro e w2 ⟨Bh, Bx, Bd, rfl, hB2, hR2⟩))
  have b3 : Below w2.heap.size w2 (w2.alloc (.cells #[(.func (.func 131) #[] #[.pointer (some ⟨Bh, 0, none⟩), .pointer (some ⟨Bx, 0, none⟩), .pointer (some ⟨Bd, 0, none⟩)])] 74)) := (Below.refl _ w2).alloc (Nat.le_refl _) _
  have s3 : (w2.alloc (.cells #[(.func (.func 131) #[] #[.pointer (some ⟨Bh, 0, none⟩), .pointer (some ⟨Bx, 0, none⟩), .pointer (some ⟨Bd, 0, none⟩)])] 74)).heap.size = w2.heap.size + 1 := World.size_alloc ..
  have x3 := Boxed.new w2 74 (.func (.func 131) #[] #[.pointer (some ⟨Bh, 0, none⟩), .pointer (some ⟨Bx, 0, none⟩), .pointer (some ⟨Bd, 0, none⟩)])
  have hR3 := hR2.below b3
  generalize w2.alloc (.cells #[(.func (.func 131) #[] #[.pointer (some ⟨Bh, 0, none⟩), .pointer (some ⟨Bx, 0, none⟩), .pointer (some ⟨Bd, 0, none⟩)])] 74) = w3 at *
  have b4 : Below w3.heap.size w3 (w3.alloc (.cells #[(.func (.func 133) #[] #[.pointer (some ⟨Bh, 0, none⟩), .pointer (some ⟨Bx, 0, none⟩), .pointer (some ⟨Bd, 0, none⟩)])] 143)) := (Below.refl _ w3).alloc (Nat.le_refl _) _
  have x4 := Boxed.new w3 143 (.func (.func 133) #[] #[.pointer (some ⟨Bh, 0, none⟩), .pointer (some ⟨Bx, 0, none⟩), .pointer (some ⟨Bd, 0, none⟩)])
  rw [s3] at x4
  have hR4 := hR3.below b4
  have x34 := box_of (b4.block _ x3.lt) x3
  generalize w3.alloc (.cells #[(.func (.func 133) #[] #[.pointer (some ⟨Bh, 0, none⟩), .pointer (some ⟨Bx, 0, none⟩), .pointer (some ⟨Bd, 0, none⟩)])] 143) = w4 at *
  have z2 := hB2.size
  have z3 := b3.size
  have f4 : w4.heap[W.heap.size]? = some (.cells #[.nilFunc, .nilFunc] 77) := (b4.block W.heap.size (by omega)).trans ((b3.block _ (by omega)).trans ((hB2.block _ (by omega)).trans f1))
  have hbel : Below W.heap.size W w4 := ((hB1.trans (hB2.mono hB1.size)).trans (b3.mono (by omega))).trans (b4.mono (by omega))
  have eR := fun j => cell_of_row w4 W.heap.size j _ _ _ f4
  have zR : ∀ j, w4.frozen? ⟨W.heap.size, j, none⟩ = false := fun j => by simp [World.frozen?, f4]
  have n1 : w2.heap.size ≠ W.heap.size := by omega
  have n2 : w2.heap.size + 1 ≠ W.heap.size := by omega
  have n3 : Bh ≠ W.heap.size ∧ Bx ≠ W.heap.size ∧ Bd ≠ W.heap.size := by
    refine ⟨fun e => ?_, fun e => ?_, fun e => ?_⟩
    · have := hR4.h; rw [e] at this; unfold Boxed at this; rw [f4] at this; simp at this
    · have := hR4.x; rw [e] at this; unfold Boxed at this; rw [f4] at this; simp at this
    · have := hR4.d; rw [e] at this; unfold Boxed at this; rw [f4] at this; simp at this
  have FR := hid f4
  have HB := hid hbel
  have HR := hid hR4
  have X3 := hid x34
  have X4 := hid x4
  have NN := hid (And.intro n1 (And.intro n2 n3))
  clear f4 hbel hR4 x34 x4 x3 hR3 hR2 b3 b4 hB2 s3 z2 z3 n1 n2 n3 f1 hs1 hB1
  go_wp2
  refine bodyPost_ret (pair_ret rfl _ _ W.heap.size _ _ (0, 0) rfl (two_set FR.out _ _)) rfl ?_
  refine ⟨_, _, rfl, two_below HB.out (Nat.le_refl _) _ _, Bh, Bx, Bd, ⟨?_, ?_, ?_⟩, ?_, ?_⟩
  · exact box_of (two_far _ _ _ _ _ NN.out.2.2.1) HR.out.h
  · exact box_of (two_far _ _ _ _ _ NN.out.2.2.2.1) HR.out.x
  · exact box_of (two_far _ _ _ _ _ NN.out.2.2.2.2) HR.out.d
  · exact box_of (two_far _ _ _ _ _ NN.out.1) X3.out
  · exact box_of (two_far _ _ _ _ _ NN.out.2.1) X4.out
end Go.Proofs.YtenpopelbmeemaaGreat.W
/- Package buf: New; element; raw's functions. -/
namespace Go.Proofs.YtenpopelbmeemaaGreat.W
open Go.ChangeShapes Go.WideShapes Go.RowKit Go.Shelf
set_option linter.unusedVariables false
theorem isVal_nil (H : List (Option Hc)) : isVal H nilN = true := by unfold isVal; rw [if_neg (by decide), if_neg (by decide)]
theorem most_fit (u n : Nat) {k : Int} (hk : thK k) (h : 1 + (n * elT k + 7) / 8 ≤ u) : (n : Int) ≤ mostE u k := by
  unfold mostE
  rcases elT_cases hk with e | e | e | e <;> rw [e] at h ⊢ <;> omega
section
variable {W0 W W1 W' : World} {hb : Nat} {H : List (Option Hc)} {u : Nat} {K : Nat → Prop}
theorem hf_nils (q : Hf W0 W hb H u K) (hB : Below W.heap.size W W1) (n : Nat) (hl : n ≤ 1048576) (gb : Nat) (hg0 : W.heap.size ≤ gb) (hg1 : gb < W1.heap.size) (hv : WordsAt W1 (.slice (some ⟨gb, 0, none⟩) n n) (List.replicate n nilN)) (hf : sumH H + (1 + n) ≤ u) (vr : Value) (rs : List Nat) (hr : WordsAt W1 vr rs) :
    Calls Tryz.prog 23 #[.pointer (some ⟨hb, 0, none⟩), .agg #[.int .i64 9, .bool false, .int .i64 0, .string ⟨#[]⟩, .slice none 0 0, .slice (some ⟨gb, 0, none⟩) n n, .int .u64 0, .int .i64 0, .int .i64 0], vr] W1 fun e w' => e = .returned (.tuple #[.int .u64 (hw (lid H) : Nat), .int .i64 0]) ∧ Hf W0 w' hb (putH H (lid H) (some (.row (List.replicate n nilN)))) u K ∧ Upd (Ch W0 K) W w' := by
  have q1 := q.below hB
  have hlen : (List.replicate n nilN).length = n := List.length_replicate
  have := hf_row q1 (List.replicate n nilN) (by rw [hlen]; exact hl) (fun x hx => by rw [(List.mem_replicate.1 hx).2]; decide) (fun x hx => by rw [(List.mem_replicate.1 hx).2]; exact isVal_nil H) (some ⟨gb, 0, none⟩) n (by rw [hlen]; exact hv) (fun x e => by cases e; exact .inr ⟨hg0, hg1⟩) (by rw [row_need, hlen]; exact hf) vr rs hr
  rw [hlen] at this
  refine this.mono ?_
  rintro e w' ⟨rfl, h1, h2⟩
  refine ⟨rfl, h1.sub (fun k e => .inl e), (Upd.of_below hB).trans' (h2.mono ?_)⟩
  rintro x ⟨e1, e2⟩
  exact ⟨fun e => e1 (.inl e), e2⟩
theorem bnew_row (q : Hf W0 W hb H u K) (n : Nat) (hf : sumH H + (1 + n) ≤ u) (vr : Value) (rs : List Nat) (hr : WordsAt W vr rs) :
    Calls Tryz.prog 8 #[.pointer (some ⟨hb, 0, none⟩), .int .i64 9, .int .i64 n, vr] W fun e w' => e = .returned (.tuple #[.int .u64 (hw (lid H) : Nat), .int .i64 0]) ∧ Hf W0 w' hb (putH H (lid H) (some (.row (List.replicate n nilN)))) u K ∧ Upd (Ch W0 K) W w' := by
  obtain ⟨sb, vc, T, l⟩ := q.lay
  have hu := l.u1
  have ci := fun w => isThing_c 9 (.inl rfl) w
  have cm := mostElements_c l 9 (.inl rfl)
  have hm := most_fit u n (k := 9) (.inl rfl) (by show 1 + (n * 8 + 7) / 8 ≤ u; omega)
  have cb := blank_row W n (by omega)
  have cp := fun (w2 : World) (gb : Nat) (hB : Below W.heap.size W w2) h0 h1 hv => hf_nils q hB n (by omega) gb h0 h1 hv hf vr rs (words_below hr hB)
  obtain ⟨orr, capr, hvr, _⟩ := id hr
  subst hvr
  have g1 : ¬ (n : Int) < 0 := by omega
  have g2 : ¬ (n : Int) > mostE u 9 := by omega
  generalize mostE u 9 = M at *
  generalize hw (lid H) = X at *
  clear l hr hf hm q
  go_enter Tryz.func8, Tryz.ntmps8
  go_wp2_with (first | (go_at_call 21; (with_reducible refine (ci _).mono ?_); rintro e w' ⟨rfl, hw⟩; (have hw' := hw.symm); subst hw'; clear hw) | (go_at_call 22; (with_reducible refine cm.mono ?_); rintro e w' ⟨rfl, hw⟩; (have hw' := hw.symm); subst hw'; clear hw) | (go_at_call 24; (with_reducible refine cb.mono ?_); rintro e w2 ⟨gb, rfl, hB2, hv2, hg0, hg1⟩; clear cb) | (go_at_call 23; (with_reducible refine (cp _ gb hB2 hg0 hg1 hv2).mono ?_); rintro e w3 ⟨rfl, hq3, hu3⟩; clear cp))
  go_ret2
  exact ⟨rfl, hq3, hu3⟩
theorem bnew_buf (q : Hf W0 W hb H u K) (k : Int) (hk : elB k > 0) (n : Nat) (hf : sumH H + (1 + (n * elB k + 7) / 8) ≤ u) (vr : Value) (rs : List Nat) (hr : WordsAt W vr rs) :
    Calls Tryz.prog 8 #[.pointer (some ⟨hb, 0, none⟩), .int .i64 k, .int .i64 n, vr] W fun e w' => e = .returned (.tuple #[.int .u64 (hw (lid H) : Nat), .int .i64 0]) ∧ Hf W0 w' hb (putH H (lid H) (some (.buf k (List.replicate (n * elB k) 0)))) u K ∧ Upd (Ch W0 K) W w' := by
  obtain ⟨sb, vc, T, l⟩ := q.lay
  have hu := l.u1
  have h9 : ¬ k = 9 := by rintro rfl; simp [elB] at hk
  have eT : elT k = elB k := by unfold elT; rw [if_neg h9]
  have hel : elB k = 1 ∨ elB k = 2 ∨ elB k = 4 ∨ elB k = 8 := by have := elT_cases (k := k) (.inr hk); rw [eT] at this; exact this
  have ci := fun w => isThing_c k (.inr hk) w
  have cm := mostElements_c l k (.inr hk)
  have hm := most_fit u n (k := k) (.inr hk) (by rw [eT]; omega)
  have hn8 : n * elB k ≤ 8388608 := by omega
  have cb := blank_buf W k hk n hn8
  have cp := fun (w2 : World) (gb : Nat) (hB : Below W.heap.size W w2) h0 h1 hv => hf_blank q hB k hk (n * elB k) hn8 (Nat.mul_mod_left _ _) gb h0 h1 hv hf vr rs (words_below hr hB)
  obtain ⟨orr, capr, hvr, _⟩ := id hr
  subst hvr
  have g1 : ¬ (n : Int) < 0 := by omega
  have g2 : ¬ (n : Int) > mostE u k := by omega
  have hnw : IntKind.i64.wrap (n : Int) = n := by
    have : n ≤ 8388608 := by rcases hel with e | e | e | e <;> rw [e] at hn8 <;> omega
    rw [IntKind.wrap_i64]; omega
  generalize mostE u k = M at *
  generalize hw (lid H) = X at *
  generalize n * elB k = N at *
  clear l hr hf hm q hel eT hk
  go_enter Tryz.func8, Tryz.ntmps8
  go_wp2_with (first | (go_at_call 21; (with_reducible refine (ci _).mono ?_); rintro e w' ⟨rfl, hw⟩; (have hw' := hw.symm); subst hw'; clear hw) | (go_at_call 22; (with_reducible refine cm.mono ?_); rintro e w' ⟨rfl, hw⟩; (have hw' := hw.symm); subst hw'; clear hw) | (go_at_call 24; (with_reducible refine cb.mono ?_); rintro e w2 ⟨gb, rfl, hB2, hv2, hg0, hg1⟩; clear cb) | (go_at_call 23; (with_reducible refine (cp _ gb hB2 hg0 hg1 hv2).mono ?_); rintro e w3 ⟨rfl, hq3, hu3⟩; clear cp))
  go_ret2
  exact ⟨rfl, hq3, hu3⟩
theorem bnew_c (q : Hf W0 W hb H u K) (k : Int) (hk : thK k) (n : Nat) (hf : sumH H + (blankH k n).need ≤ u) (vr : Value) (rs : List Nat) (hr : WordsAt W vr rs) :
    Calls Tryz.prog 8 #[.pointer (some ⟨hb, 0, none⟩), .int .i64 k, .int .i64 n, vr] W fun e w' => e = .returned (.tuple #[.int .u64 (hw (lid H) : Nat), .int .i64 0]) ∧ Hf W0 w' hb (putH H (lid H) (some (blankH k n))) u K ∧ Upd (Ch W0 K) W w' := by
  rw [blank_need hk] at hf
  rcases hk with rfl | hk
  · have e : blankH 9 n = .row (List.replicate n nilN) := rfl
    rw [e]
    exact bnew_row q n (by have : elT 9 = 8 := rfl
                           rw [this] at hf; omega) vr rs hr
  · have h9 : ¬ k = 9 := by rintro rfl; simp [elB] at hk
    have e : blankH k n = .buf k (List.replicate (n * elB k) 0) := by unfold blankH; rw [if_neg h9]
    have eT : elT k = elB k := by unfold elT; rw [if_neg h9]
    rw [e]
    rw [eT] at hf
    exact bnew_buf q k hk n hf vr rs hr
theorem bnew_neg (q : Hf W0 W hb H u K) (k : Int) (hk : thK k) (n : Int) (hn : n < 0) (vr : Value) : Calls Tryz.prog 8 #[.pointer (some ⟨hb, 0, none⟩), .int .i64 k, .int .i64 n, vr] W fun e w' => e = .returned (.tuple #[.int .u64 0, .int .i64 13]) ∧ w' = W := by
  have ci := fun w => isThing_c k hk w
  clear q hk
  go_enter Tryz.func8, Tryz.ntmps8
  go_wp2_with (go_at_call 21; (with_reducible refine (ci _).mono ?_); rintro e w' ⟨rfl, hw⟩; (have hw' := hw.symm); subst hw'; clear hw)
  go_ret2
  exact ⟨rfl, rfl⟩
theorem bnew_big (q : Hf W0 W hb H u K) (k : Int) (hk : thK k) (n : Int) (hn : 0 ≤ n) (hb' : n > mostE u k) (vr : Value) : Calls Tryz.prog 8 #[.pointer (some ⟨hb, 0, none⟩), .int .i64 k, .int .i64 n, vr] W fun e w' => e = .returned (.tuple #[.int .u64 0, .int .i64 40]) ∧ w' = W := by
  obtain ⟨sb, vc, T, l⟩ := q.lay
  have ci := fun w => isThing_c k hk w
  have cm := mostElements_c l k hk
  have g1 : ¬ n < 0 := by omega
  generalize mostE u k = M at *
  clear q hk l hn
  go_enter Tryz.func8, Tryz.ntmps8
  go_wp2_with (first | (go_at_call 21; (with_reducible refine (ci _).mono ?_); rintro e w' ⟨rfl, hw⟩; (have hw' := hw.symm); subst hw'; clear hw) | (go_at_call 22; (with_reducible refine cm.mono ?_); rintro e w' ⟨rfl, hw⟩; (have hw' := hw.symm); subst hw'; clear hw))
  go_ret2
  exact ⟨rfl, rfl⟩
end
section
variable {W W' : World} {hb sb : Nat} {vc : Value} {T : Nat → Prop} {H : List (Option Hc)} {u h : Nat}
set_option maxRecDepth 100000 in
set_option maxHeartbeats 1000000 in
theorem elem_core (w i : Int) (kd : Int) (vw : Bool) (ba fr ln nb : Int) (m : Nat) (hget : ∀ w1, Below W.heap.size W w1 → Calls Tryz.prog 37 #[.pointer (some ⟨hb, 0, none⟩), .int .u64 w] w1 (ThP w1 kd vw ba fr ln nb))
    (hcnt : ∀ W, Calls Tryz.prog 42 #[.agg #[.int .i64 kd, .bool vw, .int .i64 0, .string ⟨#[]⟩, .slice none 0 0, .slice none 0 0, .int .u64 ba, .int .i64 fr, .int .i64 ln, .int .i64 nb]] W fun e w' => e = .returned (.int .i64 (m : Nat)) ∧ Below W.heap.size W w') :
    Calls Tryz.prog 32 #[.pointer (some ⟨hb, 0, none⟩), .int .u64 w, .int .i64 i] W fun e w' => (0 ≤ i ∧ i < m ∧ ThP W kd vw ba fr ln nb e w') ∨ (¬ (0 ≤ i ∧ i < m) ∧ e = .returned (.tuple #[.agg #[.int .i64 0, .bool false, .int .i64 0, .string ⟨#[]⟩, .slice none 0 0, .slice none 0 0, .int .u64 0, .int .i64 0, .int .i64 0, .int .i64 0], .int .i64 31]) ∧ Below W.heap.size W w') := by
  have hB1 : Below W.heap.size W (W.alloc (.cells #[.int .i64 0, .bool false, .int .i64 0, .string ⟨#[]⟩, .slice none 0 0, .slice none 0 0, .int .u64 0, .int .i64 0, .int .i64 0, .int .i64 0] 69)) := (Below.refl _ W).alloc (Nat.le_refl _) _
  have f1 := World.alloc_heap_new W (.cells #[.int .i64 0, .bool false, .int .i64 0, .string ⟨#[]⟩, .slice none 0 0, .slice none 0 0, .int .u64 0, .int .i64 0, .int .i64 0, .int .i64 0] 69)
  have cg := hget _ hB1
  clear hget
  generalize hW1 : W.alloc (.cells #[.int .i64 0, .bool false, .int .i64 0, .string ⟨#[]⟩, .slice none 0 0, .slice none 0 0, .int .u64 0, .int .i64 0, .int .i64 0, .int .i64 0] 69) = W1 at *
  go_enter Tryz.func32, Tryz.ntmps32
  go_upto_region 1 with fail
  clear hW1
  go_upto_region 2 with (go_at_call 37; (with_reducible refine cg.mono ?_); rintro e w2 ⟨rfl, hB2⟩; clear cg)
  have hB3 : Below w2.heap.size w2 (w2.alloc (.cells #[.int .i64 kd, .bool vw, .int .i64 0, .string ⟨#[]⟩, .slice none 0 0, .slice none 0 0, .int .u64 ba, .int .i64 fr, .int .i64 ln, .int .i64 nb] 69)) := (Below.refl _ w2).alloc (Nat.le_refl _) _
  have e3 := World.cell?_alloc_new w2 #[.int .i64 kd, .bool vw, .int .i64 0, .string ⟨#[]⟩, .slice none 0 0, .slice none 0 0, .int .u64 ba, .int .i64 fr, .int .i64 ln, .int .i64 nb] 69
  have f2 := World.alloc_heap_new w2 (.cells #[.int .i64 kd, .bool vw, .int .i64 0, .string ⟨#[]⟩, .slice none 0 0, .slice none 0 0, .int .u64 ba, .int .i64 fr, .int .i64 ln, .int .i64 nb] 69)
  have z2 := hB2.size
  have f3 : (w2.alloc (.cells #[.int .i64 kd, .bool vw, .int .i64 0, .string ⟨#[]⟩, .slice none 0 0, .slice none 0 0, .int .u64 ba, .int .i64 fr, .int .i64 ln, .int .i64 nb] 69)).heap[W.heap.size]? = some (.cells #[.int .i64 0, .bool false, .int .i64 0, .string ⟨#[]⟩, .slice none 0 0, .slice none 0 0, .int .u64 0, .int .i64 0, .int .i64 0, .int .i64 0] 69) := (hB3.block W.heap.size (Nat.lt_of_lt_of_le (lt_get f1) z2)).trans ((hB2.block _ (lt_get f1)).trans f1)
  have hbel : Below W.heap.size W (w2.alloc (.cells #[.int .i64 kd, .bool vw, .int .i64 0, .string ⟨#[]⟩, .slice none 0 0, .slice none 0 0, .int .u64 ba, .int .i64 fr, .int .i64 ln, .int .i64 nb] 69)) := (hB1.trans (hB2.mono hB1.size)).trans (hB3.mono (Nat.le_trans hB1.size z2))
  generalize w2.alloc (.cells #[.int .i64 kd, .bool vw, .int .i64 0, .string ⟨#[]⟩, .slice none 0 0, .slice none 0 0, .int .u64 ba, .int .i64 fr, .int .i64 ln, .int .i64 nb] 69) = w3 at *
  have kp : Hid (∀ w4, Below w3.heap.size w3 w4 → (∀ j, w4.cell? ⟨w2.heap.size, j, none⟩ = #[.int .i64 kd, .bool vw, .int .i64 0, .string ⟨#[]⟩, .slice none 0 0, .slice none 0 0, .int .u64 ba, .int .i64 fr, .int .i64 ln, .int .i64 nb][j]?) ∧ w4.heap[W.heap.size]? = some (.cells #[.int .i64 0, .bool false, .int .i64 0, .string ⟨#[]⟩, .slice none 0 0, .slice none 0 0, .int .u64 0, .int .i64 0, .int .i64 0, .int .i64 0] 69) ∧ Below W.heap.size W w4) := by
    show ∀ w4, _
    intro w4 hB4
    exact ⟨fun j => (World.cell?_of_block (hB4.block w2.heap.size (lt_get f2))).trans (e3 j), (hB4.block _ (lt_get f3)).trans f3, hbel.trans (hB4.mono hbel.size)⟩
  have cc := hcnt w3
  have fin : Hid (Below W.heap.size W w3 ∧ w3.heap[W.heap.size]? = some (.cells #[.int .i64 0, .bool false, .int .i64 0, .string ⟨#[]⟩, .slice none 0 0, .slice none 0 0, .int .u64 0, .int .i64 0, .int .i64 0, .int .i64 0] 69)) := ⟨hbel, f3⟩
  have hwz : W.heap.size ≠ w2.heap.size := by have := lt_get f1; omega
  clear hbel f3 hB2 hB3 hB1 z2 f1 f2 hcnt
  by_cases i0 : i < 0
  · obtain ⟨hB3, f3⟩ := fin.out
    have eR := fun j => cell_of_row w3 W.heap.size j _ _ _ f3
    have zR : ∀ j, w3.frozen? ⟨W.heap.size, j, none⟩ = false := fun j => by simp [World.frozen?, f3]
    have FR := hid f3
    have HB := hid hB3
    clear f3 hB3 kp cc fin
    go_wp2
    refine bodyPost_ret (thing_ret2 rfl _ _ W.heap.size _ _ _ _ _ _ _ _ _ _ (0, 0) rfl (ten_set FR.out _ _ _ _ _ _ _ _ _ _)) rfl ?_
    exact .inr ⟨by omega, rfl, ten_below HB.out (Nat.le_refl _) _ _ _ _ _ _ _ _ _ _⟩
  · by_cases i1 : i ≥ (m : Int)
    · clear fin
      go_wp2_with (go_at_call 42; (with_reducible refine cc.mono ?_); rintro e w4 ⟨rfl, hB4⟩; clear cc; (obtain ⟨e4, f4, hB5⟩ := kp.out w4 hB4); (have eR := fun j => cell_of_row w4 W.heap.size j _ _ _ f4); (have zR := (fun j => by simp [World.frozen?, f4] : ∀ j, w4.frozen? ⟨W.heap.size, j, none⟩ = false)); (have FR := hid f4); (have HB := hid hB5); clear f4 hB5 hB4)
      refine bodyPost_ret (thing_ret2 rfl _ _ W.heap.size _ _ _ _ _ _ _ _ _ _ (0, 0) rfl (ten_set FR.out _ _ _ _ _ _ _ _ _ _)) rfl ?_
      exact .inr ⟨by omega, rfl, ten_below HB.out (Nat.le_refl _) _ _ _ _ _ _ _ _ _ _⟩
    · clear fin
      go_wp2_with (go_at_call 42; (with_reducible refine cc.mono ?_); rintro e w4 ⟨rfl, hB4⟩; clear cc; (obtain ⟨e4, f4, hB5⟩ := kp.out w4 hB4); (have eR := fun j => cell_of_row w4 W.heap.size j _ _ _ f4); (have zR := (fun j => by simp [World.frozen?, f4] : ∀ j, w4.frozen? ⟨W.heap.size, j, none⟩ = false)); (have FR := hid f4); (have HB := hid hB5); clear f4 hB5 hB4)
      refine bodyPost_ret (thing_ret2 rfl _ _ W.heap.size _ _ _ _ _ _ _ _ _ _ (0, 0) rfl (ten_set FR.out _ _ _ _ _ _ _ _ _ _)) rfl ?_
      exact .inl ⟨by omega, by omega, rfl, ten_below HB.out (Nat.le_refl _) _ _ _ _ _ _ _ _ _ _⟩
theorem elem_c (g : HLay W hb sb vc T H u h) (w : Nat) (hw : w < 18446744073709551616) (id : Nat) (hi : hit H w = some id) (c : Hc) (hc : H[id]? = some (some c)) (hth : isTh c) (i : Int) (h0 : 0 ≤ i) (h1 : i < (c.cnt : Nat)) :
    Calls Tryz.prog 32 #[.pointer (some ⟨hb, 0, none⟩), .int .u64 w, .int .i64 i] W (ThPost W c) := by
  refine (elem_core w i c.cl.kind c.cl.view c.cl.base c.cl.frm c.cl.len (c.bytes.length : Nat) c.cnt (fun w1 hB => thing_c (g.below hB) w hw id hi c hc hth) (fun W => count_c c hth (g.ok id c hc) W)).mono ?_
  rintro e w' (⟨_, _, h⟩ | ⟨h, _⟩)
  · exact h
  · exact absurd ⟨h0, h1⟩ h
theorem elem_out (g : HLay W hb sb vc T H u h) (w : Nat) (hw : w < 18446744073709551616) (id : Nat) (hi : hit H w = some id) (c : Hc) (hc : H[id]? = some (some c)) (hth : isTh c) (i : Int) (h1 : ¬ (0 ≤ i ∧ i < (c.cnt : Nat))) :
    Calls Tryz.prog 32 #[.pointer (some ⟨hb, 0, none⟩), .int .u64 w, .int .i64 i] W fun e w' => e = .returned (.tuple #[.agg #[.int .i64 0, .bool false, .int .i64 0, .string ⟨#[]⟩, .slice none 0 0, .slice none 0 0, .int .u64 0, .int .i64 0, .int .i64 0, .int .i64 0], .int .i64 31]) ∧ Below W.heap.size W w' := by
  refine (elem_core w i c.cl.kind c.cl.view c.cl.base c.cl.frm c.cl.len (c.bytes.length : Nat) c.cnt (fun w1 hB => thing_c (g.below hB) w hw id hi c hc hth) (fun W => count_c c hth (g.ok id c hc) W)).mono ?_
  rintro e w' (⟨h2, h3, _⟩ | ⟨_, h⟩)
  · exact absurd ⟨h2, h3⟩ h1
  · exact h
theorem raw1_c {w : Nat} {k k2 : Int} {t p n wd Bh Bx Bd : Nat} {bs : List Nat} (g : HLay W hb sb vc T H u h) (s : Spot H w k t p n k2 bs) (r : RawAt W Bh Bx Bd hb w wd) (hwd : wd = 1 ∨ wd = 2 ∨ wd = 4 ∨ wd = 8) (i : Nat) (hi : i * wd + wd ≤ n) (ha : (p + i * wd) % wd = 0) :
    Calls Tryz.prog 131 #[.int .i64 i, .pointer (some ⟨Bh, 0, none⟩), .pointer (some ⟨Bx, 0, none⟩), .pointer (some ⟨Bd, 0, none⟩)] W fun e w' => e = .returned (.int .u64 (leN (seg bs (p + i * wd) wd) : Nat)) ∧ Below W.heap.size W w' := by
  have hok := g.ok t _ s.cell
  have hl8 : bs.length ≤ 8388608 := hok.2.2
  have hfit := s.fit
  have cr := hread_c g s wd hwd (i * wd) hi ha
  have x1 := r.h.cell
  have x2 := r.x.cell
  have x3 := r.d.cell
  have h2 : ((i * wd : Nat) : Int) = (i : Int) * (wd : Int) := by simp
  have hmul : IntKind.i64.wrap ((i : Int) * (wd : Int)) = ((i * wd : Nat) : Int) := by rw [IntKind.wrap_i64, ← h2]; omega
  have hmul' : wrap64 ((i : Int) * (wd : Int)) = ((i * wd : Nat) : Int) := by unfold wrap64; rw [← h2]; omega
  generalize leN (seg bs (p + i * wd) wd) = X at *
  generalize i * wd = iw at *
  clear g s r hok hl8 hfit hi ha h2 hwd
  go_enter Tryz.func131, Tryz.ntmps131
  go_wp2_with (go_at_call 132; (with_reducible refine cr.mono ?_); rintro e w2 ⟨rfl, hB2⟩; clear cr)
  go_ret
  exact ⟨rfl, hB2⟩
theorem raw2_c {w : Nat} {k k2 : Int} {t p n wd Bh Bx Bd : Nat} {bs : List Nat} (g : HLay W hb sb vc T H u h) (s : Spot H w k t p n k2 bs) (r : RawAt W Bh Bx Bd hb w wd) (hwd : wd = 1 ∨ wd = 2 ∨ wd = 4 ∨ wd = 8) (i : Nat) (hi : i * wd + wd ≤ n) (ha : (p + i * wd) % wd = 0) (x : Nat) (hx : x < 18446744073709551616) :
    Calls Tryz.prog 133 #[.int .i64 i, .int .u64 (x : Nat), .pointer (some ⟨Bh, 0, none⟩), .pointer (some ⟨Bx, 0, none⟩), .pointer (some ⟨Bd, 0, none⟩)] W fun e w' => e = .returned (.int .i64 0) ∧ Upd T W w' ∧ HLay w' hb sb vc T (H.set t (some (.buf k2 (saved bs (p + i * wd) x wd)))) u h := by
  have hok := g.ok t _ s.cell
  have hl8 : bs.length ≤ 8388608 := hok.2.2
  have hfit := s.fit
  have cr := hwrite_c g s wd hwd (i * wd) hi ha x hx
  have x1 := r.h.cell
  have x2 := r.x.cell
  have x3 := r.d.cell
  have h2 : ((i * wd : Nat) : Int) = (i : Int) * (wd : Int) := by simp
  have hmul : IntKind.i64.wrap ((i : Int) * (wd : Int)) = ((i * wd : Nat) : Int) := by rw [IntKind.wrap_i64, ← h2]; omega
  have hmul' : wrap64 ((i : Int) * (wd : Int)) = ((i * wd : Nat) : Int) := by unfold wrap64; rw [← h2]; omega
  generalize (H.set t (some (.buf k2 (saved bs (p + i * wd) x wd)))) = HH at *
  generalize i * wd = iw at *
  clear g s r hok hl8 hfit hi ha h2 hwd
  go_enter Tryz.func133, Tryz.ntmps133
  go_wp2_with (go_at_call 134; (with_reducible refine cr.mono ?_); rintro e w2 ⟨rfl, hU, hL⟩; clear cr)
  go_ret
  exact ⟨rfl, hU, hL⟩
end
end Go.Proofs.YtenpopelbmeemaaGreat.W
