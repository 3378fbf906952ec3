import Derived.Test.YtjkipdkdjgnpoabBase5
import Derived.Test.YtjkipdkdjgnpoabBase0
import Derived.Laws.ResultCell
import Derived.Test.YtjkipdkdjgnpoabBase6
/- Package heap: load and Get, of a number. -/
namespace Go.Proofs.Ytjkipdkdjgnpoab.W
open Go.ChangeShapes Go.WideShapes Go.RowKit Go.Shelf
set_option linter.unusedVariables false
section
variable {W W' : World} {hb sb : Nat} {vc : Value} {T : Nat → Prop} {H : List (Option Hc)} {u h : Nat}
theorem cellT : (Try.prog.underlying 32).map (fun d => match d with | .struct _ | .array _ _ => true | _ => false) = some true := by kernel_rfl
theorem cellSz : (Try.prog.info? 32).map (·.size) = some 9 := by kernel_rfl
/-- a cell is answered out of its box -/
theorem cell_ret {fn : Func} {p : Tmp} (h : fn.results = #[.cell p 32]) (tmps : Array Value) (w : World) (gb : Nat) (v0 v1 v2 v3 v4 v5 v6 v7 v8 : Value) (fr : Nat × Nat) (hp : tmps.getD p undef = .pointer (some ⟨gb, 0, none⟩)) (hg : w.heap[gb]? = some (.cells #[v0, v1, v2, v3, v4, v5, v6, v7, v8] 32 fr)) : (results fn tmps).run Try.prog w = .ok (.agg #[v0, v1, v2, v3, v4, v5, v6, v7, v8]) w := by
  have ht := cellT
  cases hu : Try.prog.underlying 32 with
  | none => rw [hu] at ht; cases ht
  | some d =>
    rw [hu] at ht
    simp only [Option.map_some, Option.some.injEq] at ht
    refine results_cell_row h tmps w gb _ _ fr d hp hg hu ?_ (by rw [cellSz]; rfl)
    cases d <;> first | rfl | exact ht
/-- nine cells are written -/
theorem nine_set {w : World} {gb : Nat} {z0 z1 z2 z3 z4 z5 z6 z7 z8 : Value} {t : TypeId} (hg : w.heap[gb]? = some (.cells #[z0, z1, z2, z3, z4, z5, z6, z7, z8] t (0, 0))) (v0 v1 v2 v3 v4 v5 v6 v7 v8 : Value) : (((((((((w.setCell ⟨gb, 0, none⟩ v0).setCell ⟨gb, 1, none⟩ v1).setCell ⟨gb, 2, none⟩ v2).setCell ⟨gb, 3, none⟩ v3).setCell ⟨gb, 4, none⟩ v4).setCell ⟨gb, 5, none⟩ v5).setCell ⟨gb, 6, none⟩ v6).setCell ⟨gb, 7, none⟩ v7).setCell ⟨gb, 8, none⟩ v8).heap[gb]? = some (.cells #[v0, v1, v2, v3, v4, v5, v6, v7, v8] t (0, 0)) := by
  have h0 : w.heap[gb]? = some (.cells [z0, z1, z2, z3, z4, z5, z6, z7, z8].toArray t (0, 0)) := hg
  have h1 := heap_set h0 0 v0
  have h2 := heap_set h1 1 v1
  have h3 := heap_set h2 2 v2
  have h4 := heap_set h3 3 v3
  have h5 := heap_set h4 4 v4
  have h6 := heap_set h5 5 v5
  have h7 := heap_set h6 6 v6
  have h8 := heap_set h7 7 v7
  have h9 := heap_set h8 8 v8
  exact h9
theorem nine_below {w a : World} {gb B : Nat} (h : Below B a w) (hB : B ≤ gb) (v0 v1 v2 v3 v4 v5 v6 v7 v8 : Value) : Below B a (((((((((w.setCell ⟨gb, 0, none⟩ v0).setCell ⟨gb, 1, none⟩ v1).setCell ⟨gb, 2, none⟩ v2).setCell ⟨gb, 3, none⟩ v3).setCell ⟨gb, 4, none⟩ v4).setCell ⟨gb, 5, none⟩ v5).setCell ⟨gb, 6, none⟩ v6).setCell ⟨gb, 7, none⟩ v7).setCell ⟨gb, 8, none⟩ v8) :=
  ((((((((h.setCell (p := ⟨gb, 0, none⟩) hB v0).setCell (p := ⟨gb, 1, none⟩) hB v1).setCell (p := ⟨gb, 2, none⟩) hB v2).setCell (p := ⟨gb, 3, none⟩) hB v3).setCell (p := ⟨gb, 4, none⟩) hB v4).setCell (p := ⟨gb, 5, none⟩) hB v5).setCell (p := ⟨gb, 6, none⟩) hB v6).setCell (p := ⟨gb, 7, none⟩) hB v7).setCell (p := ⟨gb, 8, none⟩) hB v8
set_option maxHeartbeats 1000000 in
theorem load_num (g : HLay W hb sb vc T H u h) (id : Nat) (i : Int) (hc : H[id]? = some (some (.num i))) :
    Calls Try.prog 23 #[.pointer (some ⟨hb, 0, none⟩), .int .i64 id] W fun e w' => e = .returned (.agg #[.int .i64 2, .bool false, .int .i64 i, .string ByteArray.empty, .slice none 0 0, .slice none 0 0, .int .u64 0, .int .i64 0, .int .i64 0]) ∧ Below W.heap.size W w' := by
  have hidl : id < H.length := (List.getElem?_eq_some_iff.1 hc).1
  obtain ⟨b, cap, hvc, hcell, _⟩ := g.at hidl
  have c1 := g.cell 1
  simp only [List.getElem?_cons_succ, List.getElem?_cons_zero] at c1
  rw [hvc] at c1
  have k0 := hcell 0 _ hc (by omega)
  have k1 := hcell 1 _ hc (by omega)
  have k2 := hcell 2 _ hc (by omega)
  have k3 := hcell 3 _ hc (by omega)
  have k4 := hcell 4 _ hc (by omega)
  simp only [clO, Hc.cl, Cl.cells, List.getElem?_cons_succ, List.getElem?_cons_zero, Nat.add_zero] at k0 k1 k2 k3 k4
  have j0 : (0 : Int) ≤ id := by omega
  have j1 : (id : Int) < H.length := by omega
  have cs : ∀ w, Calls Try.prog 29 #[.int .i64 2, .bool false] w fun e w' => e = .returned (.int .i64 1) ∧ w' = w := fun w => shape_c 2 false w
  clear hcell
  have hB1 : Below W.heap.size W (W.alloc (.cells #[.int .i64 0, .bool false, .int .i64 0, .string ⟨#[]⟩, .slice none 0 0, .slice none 0 0, .int .u64 0, .int .i64 0, .int .i64 0] 32)) := (Below.refl _ W).alloc (Nat.le_refl _) _
  have hs1 : (W.alloc (.cells #[.int .i64 0, .bool false, .int .i64 0, .string ⟨#[]⟩, .slice none 0 0, .slice none 0 0, .int .u64 0, .int .i64 0, .int .i64 0] 32)).heap.size = W.heap.size + 1 := World.size_alloc ..
  have e1 := World.cell?_alloc_new W #[.int .i64 0, .bool false, .int .i64 0, .string ⟨#[]⟩, .slice none 0 0, .slice none 0 0, .int .u64 0, .int .i64 0, .int .i64 0] 32
  have f1 := World.alloc_heap_new W (.cells #[.int .i64 0, .bool false, .int .i64 0, .string ⟨#[]⟩, .slice none 0 0, .slice none 0 0, .int .u64 0, .int .i64 0, .int .i64 0] 32)
  go_enter Try.func23, Try.ntmps23
  go_upto_region 1 with fail
  have c1' := below_cell hB1 c1
  have k0' := below_cell hB1 k0
  have k1' := below_cell hB1 k1
  have k2' := below_cell hB1 k2
  have k3' := below_cell hB1 k3
  have k4' := below_cell hB1 k4
  generalize hW1 : W.alloc (.cells #[.int .i64 0, .bool false, .int .i64 0, .string ⟨#[]⟩, .slice none 0 0, .slice none 0 0, .int .u64 0, .int .i64 0, .int .i64 0] 32) = W1 at *
  clear c1 k0 k1 k2 k3 k4 hW1
  go_upto_region 3 with fail
  have hB3 : Below W1.heap.size W1 ((W1.alloc (.cells #[.int .i64 2, .bool false, .int .u64 0, .int .i64 0, .int .i64 0] 64)).alloc (.cells #[.int .i64 2, .bool false, .int .i64 0, .string ⟨#[]⟩, .slice none 0 0, .slice none 0 0, .int .u64 0, .int .i64 0, .int .i64 0] 32)) := ((Below.refl _ W1).alloc (Nat.le_refl _) _).alloc (by rw [World.size_alloc]; omega) _
  have hs2 : (W1.alloc (.cells #[.int .i64 2, .bool false, .int .u64 0, .int .i64 0, .int .i64 0] 64)).heap.size = W.heap.size + 2 := by rw [World.size_alloc, hs1]
  have hs3 : ((W1.alloc (.cells #[.int .i64 2, .bool false, .int .u64 0, .int .i64 0, .int .i64 0] 64)).alloc (.cells #[.int .i64 2, .bool false, .int .i64 0, .string ⟨#[]⟩, .slice none 0 0, .slice none 0 0, .int .u64 0, .int .i64 0, .int .i64 0] 32)).heap.size = W.heap.size + 3 := by rw [World.size_alloc, hs2]
  have eO := World.cell?_alloc_new (W1.alloc (.cells #[.int .i64 2, .bool false, .int .u64 0, .int .i64 0, .int .i64 0] 64)) #[.int .i64 2, .bool false, .int .i64 0, .string ⟨#[]⟩, .slice none 0 0, .slice none 0 0, .int .u64 0, .int .i64 0, .int .i64 0] 32
  have eC := World.cell?_alloc_new W1 #[.int .i64 2, .bool false, .int .u64 0, .int .i64 0, .int .i64 0] 64
  have eC3 : ∀ j, ((W1.alloc (.cells #[.int .i64 2, .bool false, .int .u64 0, .int .i64 0, .int .i64 0] 64)).alloc (.cells #[.int .i64 2, .bool false, .int .i64 0, .string ⟨#[]⟩, .slice none 0 0, .slice none 0 0, .int .u64 0, .int .i64 0, .int .i64 0] 32)).cell? ⟨W.heap.size + 1, j, none⟩ = #[Value.int .i64 2, .bool false, .int .u64 0, .int .i64 0, .int .i64 0][j]? := by
    intro j
    rw [← hs1, ← eC j]
    exact World.cell?_of_block (Below.heap_alloc _ _ _ (by show W1.heap.size < _; rw [World.size_alloc]; omega))
  have fO := World.alloc_heap_new (W1.alloc (.cells #[.int .i64 2, .bool false, .int .u64 0, .int .i64 0, .int .i64 0] 64)) (.cells #[.int .i64 2, .bool false, .int .i64 0, .string ⟨#[]⟩, .slice none 0 0, .slice none 0 0, .int .u64 0, .int .i64 0, .int .i64 0] 32)
  rw [hs2, show W.heap.size + 2 = W.heap.size + 1 + 1 from rfl] at eO fO
  generalize (W1.alloc (.cells #[.int .i64 2, .bool false, .int .u64 0, .int .i64 0, .int .i64 0] 64)).alloc (.cells #[.int .i64 2, .bool false, .int .i64 0, .string ⟨#[]⟩, .slice none 0 0, .slice none 0 0, .int .u64 0, .int .i64 0, .int .i64 0] 32) = W3 at *
  have eR3 : ∀ j, W3.cell? ⟨W.heap.size, j, none⟩ = #[.int .i64 0, .bool false, .int .i64 0, .string ⟨#[]⟩, .slice none 0 0, .slice none 0 0, .int .u64 0, .int .i64 0, .int .i64 0][j]? := by
    intro j
    rw [World.cell?_of_block (hB3.block W.heap.size (by omega))]
    exact e1 j
  have hBW : Below W.heap.size W W3 := hB1.trans (hB3.mono hB1.size)
  have g3 := g.below hBW
  have fR : W3.heap[W.heap.size]? = some (.cells #[.int .i64 0, .bool false, .int .i64 0, .string ⟨#[]⟩, .slice none 0 0, .slice none 0 0, .int .u64 0, .int .i64 0, .int .i64 0] 32) := (hB3.block W.heap.size (by omega)).trans f1
  have c0 := g3.cell 0
  simp only [List.getElem?_cons_zero] at c0
  have ho := g.ok id _ hc
  have cl := load_st g3.st id _ (hA_some hc) 0 8 (.inr (.inr (.inr rfl))) (by omega) (by show 0 + 8 ≤ (le8 _).length; rw [le8_len]; omega)
  have el : leN (seg (Hc.num i).bytes 0 8) = (i % 18446744073709551616).toNat := by
    have h1 : seg (Hc.num i).bytes 0 8 = le8 (i % 18446744073709551616).toNat := by
      show ((le8 _).drop 0).take 8 = _
      rw [List.drop_zero, List.take_of_length_le (by rw [le8_len]; omega)]
    rw [h1, leN_le8 _ (by omega)]
  rw [el, show ((0 : Nat) : Int) = 0 from rfl, show ((8 : Nat) : Int) = 8 from rfl] at cl
  have ei : IntKind.i64.wrap (((i % 18446744073709551616).toNat : Nat) : Int) = i := by
    have h1 := ho.1
    have h2 := ho.2
    rw [IntKind.wrap_i64]; omega
  generalize (i % 18446744073709551616).toNat = X at cl ei
  have kp : Hid (∀ w4, Below W3.heap.size W3 w4 → w4.heap[W.heap.size]? = some (.cells #[.int .i64 0, .bool false, .int .i64 0, .string ⟨#[]⟩, .slice none 0 0, .slice none 0 0, .int .u64 0, .int .i64 0, .int .i64 0] 32) ∧ w4.heap[W.heap.size + 1 + 1]? = some (.cells #[.int .i64 2, .bool false, .int .i64 0, .string ⟨#[]⟩, .slice none 0 0, .slice none 0 0, .int .u64 0, .int .i64 0, .int .i64 0] 32)) := by
    show ∀ w4, _
    intro w4 hB4
    exact ⟨(hB4.block _ (by omega)).trans fR, (hB4.block _ (by omega)).trans fO⟩
  clear eR3 fR fO g3 e1 c1' k0' k1' k2' k3' k4' f1
  go_upto_region 6 with (first | (go_at_call 29; (with_reducible refine (cs _).mono ?_); rintro e w' ⟨rfl, hw⟩; (have hw' := hw.symm); subst hw'; clear hw) | (go_at_call 43; (with_reducible refine cl.mono ?_); rintro e w4 ⟨rfl, hB4⟩; clear cl))
  obtain ⟨fR, fO⟩ := kp.out w4 hB4
  have eR := fun j => cell_of_row w4 W.heap.size j _ _ _ fR
  have eO := fun j => cell_of_row w4 (W.heap.size + 1 + 1) j _ _ _ fO
  have zR : ∀ j, w4.frozen? ⟨W.heap.size, j, none⟩ = false := fun j => by simp [World.frozen?, fR]
  have zO : ∀ j, w4.frozen? ⟨W.heap.size + 1 + 1, j, none⟩ = false := fun j => by simp [World.frozen?, fO]
  have hBf : Below W.heap.size W w4 := hBW.trans (hB4.mono hBW.size)
  have hO1 : W.heap.size ≤ W.heap.size + 1 + 1 := by omega
  have FR := hid fR
  clear kp fR fO g ho hc hBW hB4
  go_wp2
  refine bodyPost_ret (cell_ret rfl _ _ W.heap.size _ _ _ _ _ _ _ _ _ (0, 0) rfl (nine_set ((Below.heap_setCell _ _ _ _ (by show W.heap.size ≠ W.heap.size + 1 + 1; omega)).trans FR.out) _ _ _ _ _ _ _ _ _)) rfl ?_
  exact ⟨rfl, nine_below (hBf.setCell (p := ⟨W.heap.size + 1 + 1, 2, none⟩) hO1 _) (Nat.le_refl _) _ _ _ _ _ _ _ _ _⟩
end
end Go.Proofs.Ytjkipdkdjgnpoab.W
/- Package heap: Get. -/
namespace Go.Proofs.Ytjkipdkdjgnpoab.W
open Go.ChangeShapes Go.WideShapes Go.RowKit Go.Shelf
set_option linter.unusedVariables false
section
variable {W W' : World} {hb sb : Nat} {vc : Value} {T : Nat → Prop} {H : List (Option Hc)} {u h : Nat}
theorem cell_ret2 {fn : Func} {p q : Tmp} (h : fn.results = #[.cell p 32, .tmp q]) (tmps : Array Value) (w : World) (gb : Nat) (v0 v1 v2 v3 v4 v5 v6 v7 v8 : Value) (fr : Nat × Nat) (hp : tmps.getD p undef = .pointer (some ⟨gb, 0, none⟩)) (hg : w.heap[gb]? = some (.cells #[v0, v1, v2, v3, v4, v5, v6, v7, v8] 32 fr)) : (results fn tmps).run Try.prog w = .ok (.tuple #[.agg #[v0, v1, v2, v3, v4, v5, v6, v7, v8], tmps.getD q undef]) w := by
  have ht := cellT
  rw [results_cell_tmp h, hp]
  cases hu : Try.prog.underlying 32 with
  | none => rw [hu] at ht; cases ht
  | some d =>
    rw [hu] at ht
    simp only [Option.map_some, Option.some.injEq] at ht
    have hl := run_loadVar_row (P := Try.prog) w gb 32 32 #[v0, v1, v2, v3, v4, v5, v6, v7, v8] fr d hg hu (by cases d <;> first | rfl | exact ht) (by rw [cellSz]; rfl)
    simp [asAddr, hl]
theorem get_c (g : HLay W hb sb vc T H u h) (w : Nat) (hw : w < 18446744073709551616) (id : Nat) (hi : hit H w = some id) (kd : Int) (vw : Bool) (i : Int) (t : ByteArray) (ob ow : Option Addr) (bl bc wl wc : Nat) (ba fr ln : Int) (hld : ∀ w1, Below W.heap.size W w1 → Calls Try.prog 23 #[.pointer (some ⟨hb, 0, none⟩), .int .i64 id] w1 fun e w' => e = .returned (.agg #[.int .i64 kd, .bool vw, .int .i64 i, .string t, .slice ob bl bc, .slice ow wl wc, .int .u64 ba, .int .i64 fr, .int .i64 ln]) ∧ Below w1.heap.size w1 w') :
    Calls Try.prog 10 #[.pointer (some ⟨hb, 0, none⟩), .int .u64 w] W fun e w' => e = .returned (.tuple #[.agg #[.int .i64 kd, .bool vw, .int .i64 i, .string t, .slice ob bl bc, .slice ow wl wc, .int .u64 ba, .int .i64 fr, .int .i64 ln], .int .i64 0]) ∧ Below W.heap.size W w' := by
  have hB1 : Below W.heap.size W (W.alloc (.cells #[.int .i64 0, .bool false, .int .i64 0, .string ⟨#[]⟩, .slice none 0 0, .slice none 0 0, .int .u64 0, .int .i64 0, .int .i64 0] 32)) := (Below.refl _ W).alloc (Nat.le_refl _) _
  have hs1 : (W.alloc (.cells #[.int .i64 0, .bool false, .int .i64 0, .string ⟨#[]⟩, .slice none 0 0, .slice none 0 0, .int .u64 0, .int .i64 0, .int .i64 0] 32)).heap.size = W.heap.size + 1 := World.size_alloc ..
  have f1 := World.alloc_heap_new W (.cells #[.int .i64 0, .bool false, .int .i64 0, .string ⟨#[]⟩, .slice none 0 0, .slice none 0 0, .int .u64 0, .int .i64 0, .int .i64 0] 32)
  have cf := find_c (g.below hB1) w hw
  rw [hi] at cf
  simp only [Option.getD_some, Option.isSome_some] at cf
  have cl := hld _ hB1
  have kp : Hid (∀ w4, Below (W.alloc (.cells #[.int .i64 0, .bool false, .int .i64 0, .string ⟨#[]⟩, .slice none 0 0, .slice none 0 0, .int .u64 0, .int .i64 0, .int .i64 0] 32)).heap.size (W.alloc (.cells #[.int .i64 0, .bool false, .int .i64 0, .string ⟨#[]⟩, .slice none 0 0, .slice none 0 0, .int .u64 0, .int .i64 0, .int .i64 0] 32)) w4 → w4.heap[W.heap.size]? = some (.cells #[.int .i64 0, .bool false, .int .i64 0, .string ⟨#[]⟩, .slice none 0 0, .slice none 0 0, .int .u64 0, .int .i64 0, .int .i64 0] 32) ∧ Below W.heap.size W w4) := by
    show ∀ w4, _
    intro w4 hB4
    exact ⟨(hB4.block _ (by omega)).trans f1, hB1.trans (hB4.mono hB1.size)⟩
  clear hld
  go_enter Try.func10, Try.ntmps10
  go_upto_region 1 with fail
  generalize W.alloc (.cells #[.int .i64 0, .bool false, .int .i64 0, .string ⟨#[]⟩, .slice none 0 0, .slice none 0 0, .int .u64 0, .int .i64 0, .int .i64 0] 32) = W1 at *
  go_wp2_with (first | (go_at_call 22; (with_reducible refine cf.mono ?_); rintro e w' ⟨rfl, hw⟩; (have hw' := hw.symm); subst hw'; clear hw cf) | (go_at_call 23; (with_reducible refine cl.mono ?_); rintro e w4 ⟨rfl, hB4⟩; clear cl; (obtain ⟨fR, hBf⟩ := kp.out w4 hB4); (have eR := fun j => cell_of_row w4 W.heap.size j _ _ _ fR); (have zR := (fun j => by simp [World.frozen?, fR] : ∀ j, w4.frozen? ⟨W.heap.size, j, none⟩ = false)); (have FR := hid fR); clear fR))
  refine bodyPost_ret (cell_ret2 rfl _ _ W.heap.size _ _ _ _ _ _ _ _ _ (0, 0) rfl (nine_set FR.out _ _ _ _ _ _ _ _ _)) rfl ?_
  exact ⟨rfl, nine_below hBf (Nat.le_refl _) _ _ _ _ _ _ _ _ _⟩
theorem get_num (g : HLay W hb sb vc T H u h) (w : Nat) (hw : w < 18446744073709551616) (id : Nat) (hi : hit H w = some id) (i : Int) (hc : H[id]? = some (some (.num i))) :
    Calls Try.prog 10 #[.pointer (some ⟨hb, 0, none⟩), .int .u64 w] W fun e w' => e = .returned (.tuple #[.agg #[.int .i64 2, .bool false, .int .i64 i, .string ByteArray.empty, .slice none 0 0, .slice none 0 0, .int .u64 0, .int .i64 0, .int .i64 0], .int .i64 0]) ∧ Below W.heap.size W w' :=
  get_c g w hw id hi 2 false i ByteArray.empty none none 0 0 0 0 0 0 0 (fun w1 hB => load_num (g.below hB) id i hc)
end
end Go.Proofs.Ytjkipdkdjgnpoab.W
/- casketlaw6's awake. -/
namespace Go.Proofs.Ytjkipdkdjgnpoab.W
open Go.ChangeShapes Go.WideShapes Go.RowKit Go.Shelf
set_option linter.unusedVariables false
def aw0 : List (Option Hc) := [some (.num 5)]
def aw1 : List (Option Hc) := [some (.num 5), some (.row [18445336698825998336, 9221120237041090560])]
theorem aw_need0 (i : Int) : (Hc.num i).need = 2 := by unfold Hc.need; rw [show (Hc.num i).bytes.length = 8 from le8_len _]
theorem aw_need1 : (Hc.row [18445336698825998336, 9221120237041090560]).need = 3 := by unfold Hc.need; rw [show (Hc.row [18445336698825998336, 9221120237041090560]).bytes.length = 16 from row_len _]
theorem aw_sum1 : sumH aw1 = 5 := by show (Hc.num 5).need + ((Hc.row _).need + 0) = 5; rw [aw_need0, aw_need1]
theorem aw_hit0 : hit aw1 18445336698825998336 = some 0 := by decide
theorem aw_hit1 : hit aw1 18445336698825998337 = some 1 := by decide
theorem aw_val : ∀ w ∈ [18445336698825998336, 9221120237041090560], isVal aw0 w = true := by decide
theorem aw_rch (rs : List Nat) : rchB aw1 ([18445336698825998337] ++ rs) = [true, true] := by
  refine needR_eq (H := aw1) (rchB_len _ _) rfl (fun i => ?_)
  rw [rchB_get]
  have h1 : Rch aw1 ([18445336698825998337] ++ rs) 1 := .root 18445336698825998337 1 (by simp) aw_hit1
  have h0 : Rch aw1 ([18445336698825998337] ++ rs) 0 := .step 1 0 18445336698825998336 (.row [18445336698825998336, 9221120237041090560]) h1 rfl (by simp [Hc.succ]) aw_hit0
  constructor
  · intro h
    obtain ⟨c, hc⟩ := h.live
    have : i < 2 := (List.getElem?_eq_some_iff.1 hc).1
    rcases (by omega : i = 0 ∨ i = 1) with rfl | rfl <;> rfl
  · intro h
    have : i < 2 := (List.getElem?_eq_some_iff.1 h).1
    rcases (by omega : i = 0 ∨ i = 1) with rfl | rfl
    · exact h0
    · exact h1
theorem aw_reach : reachN aw1 [18445336698825998337] = 5 := by
  have := aw_rch []
  rw [List.append_nil] at this
  unfold reachN
  rw [this]
  show (if true = true then (Hc.num 5).need else 0) + ((if true = true then (Hc.row _).need else 0) + 0) = 5
  rw [aw_need0, aw_need1]; rfl
theorem aw_room : roomH aw1 6 (.num 6) [18445336698825998337] = aw1 := by
  unfold roomH
  rw [aw_sum1, aw_need0, if_neg (by decide), aw_rch]
  rfl
theorem aw_put0 {W : World} {S : Nat → Prop} {hb : Nat} (g : HSt W S hb [] 6) (hS : ∀ k, S k → k < W.heap.size) :
    Calls Try.prog 8 #[.pointer (some ⟨hb, 0, none⟩), .agg #[.int .i64 2, .bool false, .int .i64 5, .string ⟨#[]⟩, .slice none 0 0, .slice none 0 0, .int .u64 0, .int .i64 0, .int .i64 0], .slice none 0 0] W fun e w' => e = .returned (.tuple #[.int .u64 18445336698825998336, .int .i64 0]) ∧ Upd S W w' ∧ HSt w' (Nx S W w') hb aw0 6 := by
  refine (put_num g hS 5 (by omega) (by omega) none none 0 0 (.slice none 0 0) [] (words_nil W _ _)).mono ?_
  intro e w' h
  exact h.fits (by rw [aw_need0]; decide)
theorem aw_put1 {W : World} {S : Nat → Prop} {hb : Nat} (g : HSt W S hb aw0 6) (hS : ∀ k, S k → k < W.heap.size) :
    Calls Try.prog 8 #[.pointer (some ⟨hb, 0, none⟩), .agg #[.int .i64 9, .bool false, .int .i64 0, .string ⟨#[]⟩, .slice none 0 0, .slice (some ⟨W.heap.size, 0, none⟩) 2 2, .int .u64 0, .int .i64 0, .int .i64 0], .slice (some ⟨W.heap.size + 1, 0, none⟩) 1 1] ((W.alloc (.cells #[.int .u64 18445336698825998336, .int .u64 9221120237041090560] 26)).alloc (.cells #[.int .u64 18445336698825998336] 26)) fun e w' => e = .returned (.tuple #[.int .u64 18445336698825998337, .int .i64 0]) ∧ Upd S W w' ∧ HSt w' (Nx S W w') hb aw1 6 := by
  have hB1 : Below W.heap.size W (W.alloc (.cells #[.int .u64 18445336698825998336, .int .u64 9221120237041090560] 26)) := (Below.refl _ W).alloc (Nat.le_refl _) _
  have hs1 : (W.alloc (.cells #[.int .u64 18445336698825998336, .int .u64 9221120237041090560] 26)).heap.size = W.heap.size + 1 := World.size_alloc ..
  have hB2 : Below (W.alloc (.cells #[.int .u64 18445336698825998336, .int .u64 9221120237041090560] 26)).heap.size (W.alloc (.cells #[.int .u64 18445336698825998336, .int .u64 9221120237041090560] 26)) ((W.alloc (.cells #[.int .u64 18445336698825998336, .int .u64 9221120237041090560] 26)).alloc (.cells #[.int .u64 18445336698825998336] 26)) := (Below.refl _ _).alloc (Nat.le_refl _) _
  have hs2 : (((W.alloc (.cells #[.int .u64 18445336698825998336, .int .u64 9221120237041090560] 26)).alloc (.cells #[.int .u64 18445336698825998336] 26))).heap.size = W.heap.size + 2 := by rw [World.size_alloc, hs1]
  have hB : Below W.heap.size W ((W.alloc (.cells #[.int .u64 18445336698825998336, .int .u64 9221120237041090560] 26)).alloc (.cells #[.int .u64 18445336698825998336] 26)) := hB1.trans (hB2.mono hB1.size)
  have hw := words_below (words_new W [18445336698825998336, 9221120237041090560] _ (by decide) (by decide) rfl 26) hB2
  have hr := words_new (W.alloc (.cells #[.int .u64 18445336698825998336, .int .u64 9221120237041090560] 26)) [18445336698825998336] _ (by decide) (by decide) rfl 26
  rw [hs1] at hr
  refine (put_row (g.below hB) (fun k e => by have := hS k e; omega) [18445336698825998336, 9221120237041090560] (by decide) (by decide) aw_val none (some ⟨W.heap.size, 0, none⟩) 0 2 hw ?_ _ _ hr).mono ?_
  · intro o n cap e k
    cases e
    rcases k with k | k
    · have := hS _ k; exact absurd this (Nat.lt_irrefl _)
    · have k' : (((W.alloc (.cells #[.int .u64 18445336698825998336, .int .u64 9221120237041090560] 26)).alloc (.cells #[.int .u64 18445336698825998336] 26))).heap.size ≤ W.heap.size := k
      omega
  · intro e w' h
    obtain ⟨h1, h2, h3⟩ := h.fits (by rw [aw_need1]; show (Hc.num 5).need + 0 + 3 ≤ 6; rw [aw_need0]; decide)
    have hz := h2.size
    refine ⟨h1, (Upd.of_below hB).trans' h2, h3.mono ?_⟩
    rintro k (e | e)
    · exact .inl e
    · exact .inr ⟨by omega, e.2⟩
theorem aw_put2 {W : World} {S : Nat → Prop} {hb : Nat} (g : HSt W S hb aw1 6) (hS : ∀ k, S k → k < W.heap.size) :
    Calls Try.prog 8 #[.pointer (some ⟨hb, 0, none⟩), .agg #[.int .i64 2, .bool false, .int .i64 6, .string ⟨#[]⟩, .slice none 0 0, .slice none 0 0, .int .u64 0, .int .i64 0, .int .i64 0], .slice (some ⟨W.heap.size, 0, none⟩) 1 1] (W.alloc (.cells #[.int .u64 18445336698825998337] 26)) fun e w' => e = .returned (.tuple #[.int .u64 0, .int .i64 40]) ∧ Upd S W w' ∧ HSt w' (Nx S W w') hb aw1 6 := by
  have hB1 : Below W.heap.size W (W.alloc (.cells #[.int .u64 18445336698825998337] 26)) := (Below.refl _ W).alloc (Nat.le_refl _) _
  have hs1 : (W.alloc (.cells #[.int .u64 18445336698825998337] 26)).heap.size = W.heap.size + 1 := World.size_alloc ..
  have hr := words_new W [18445336698825998337] _ (by decide) (by decide) rfl 26
  refine (put_num (g.below hB1) (fun k e => by have := hS k e; omega) 6 (by omega) (by omega) none none 0 0 _ _ hr).mono ?_
  intro e w' h
  rw [aw_room] at h
  obtain ⟨h1, h2, h3⟩ := h.not (by rw [aw_need0, aw_sum1]; decide)
  have hz := h2.size
  refine ⟨h1, (Upd.of_below hB1).trans' h2, h3.mono ?_⟩
  rintro k (e | e)
  · exact .inl e
  · exact .inr ⟨by omega, e.2⟩
theorem HSt.lt {W : World} {S : Nat → Prop} {hb : Nat} {H : List (Option Hc)} {u : Nat} {W' : World} (hS : ∀ k, S k → k < W.heap.size) (hU : Upd S W W') : ∀ k, Nx S W W' k → k < W'.heap.size := by
  rintro k (e | e)
  · have := hS k e; have := hU.size; omega
  · exact e.2
theorem awake6_c (W : World) : Calls Try.prog 13 #[] W fun e w' => e = .returned (.bool true) ∧ Below W.heap.size W w' := by
  have cn := hnew_c 6 (by decide) W
  rw [show ((6 : Nat) : Int) = 6 from rfl] at cn
  go_enter Try.func13, Try.ntmps13
  go_upto_region 4 with (go_at_call 7; (with_reducible refine cn.mono ?_); rintro e W1 ⟨hb, rfl, hB1, g1⟩; clear cn)
  have hS1 : ∀ k, (W.heap.size ≤ k ∧ k < W1.heap.size) → k < W1.heap.size := fun k e => e.2
  have c1 := aw_put0 g1 hS1
  go_upto_region 5 with (go_at_call 8; (with_reducible refine c1.mono ?_); rintro e W2 ⟨rfl, hU2, g2⟩; clear c1)
  have c2 := aw_put1 g2 (HSt.lt (hb := hb) (H := aw0) (u := 6) hS1 hU2)
  go_upto_region 6 with (go_at_call 8; (with_reducible refine c2.mono ?_); rintro e W3 ⟨rfl, hU3, g3⟩; clear c2)
  have c3 := aw_put2 g3 (HSt.lt (hb := hb) (H := aw0) (u := 6) (HSt.lt (hb := hb) (H := aw0) (u := 6) hS1 hU2) hU3)
  go_upto_region 7 with (go_at_call 8; (with_reducible refine c3.mono ?_); rintro e W4 ⟨rfl, hU4, g4⟩; clear c3)
  obtain ⟨sb, vc, T, l4⟩ := g4.lay
  have c4 := get_num l4 18445336698825998336 (by decide) 0 aw_hit0 5 rfl
  rw [show ((18445336698825998336 : Nat) : Int) = 18445336698825998336 from rfl] at c4
  go_upto_region 8 with (go_at_call 10; (with_reducible refine c4.mono ?_); rintro e W5 ⟨rfl, hB5⟩; clear c4)
  have hB6 : Below W5.heap.size W5 (W5.alloc (.cells #[.int .i64 2, .bool false, .int .i64 5, .string ByteArray.empty, .slice none 0 0, .slice none 0 0, .int .u64 0, .int .i64 0, .int .i64 0] 32)) := (Below.refl _ W5).alloc (Nat.le_refl _) _
  have e6 := World.cell?_alloc_new W5 #[.int .i64 2, .bool false, .int .i64 5, .string ByteArray.empty, .slice none 0 0, .slice none 0 0, .int .u64 0, .int .i64 0, .int .i64 0] 32
  have d0 := e6 0
  have d2 := e6 2
  simp only [List.getElem?_toArray, List.getElem?_cons_succ, List.getElem?_cons_zero] at d0 d2
  generalize W5.alloc (.cells #[.int .i64 2, .bool false, .int .i64 5, .string ByteArray.empty, .slice none 0 0, .slice none 0 0, .int .u64 0, .int .i64 0, .int .i64 0] 32) = W6 at *
  have hB46 : Below W4.heap.size W4 W6 := hB5.trans (hB6.mono hB5.size)
  have hB7 : Below W6.heap.size W6 (W6.alloc (.cells #[.int .u64 18445336698825998337] 26)) := (Below.refl _ W6).alloc (Nat.le_refl _) _
  have l7 := l4.below (hB46.trans (hB7.mono hB46.size))
  have c5 : Calls Try.prog 11 #[.pointer (some ⟨hb, 0, none⟩), .slice (some ⟨W6.heap.size, 0, none⟩) 1 1] (W6.alloc (.cells #[.int .u64 18445336698825998337] 26)) fun e w' => e = .returned (.int .i64 5) ∧ Below (W6.alloc (.cells #[.int .u64 18445336698825998337] 26)).heap.size (W6.alloc (.cells #[.int .u64 18445336698825998337] 26)) w' := by
    have := hreach_c l7 (by rw [aw_sum1]; decide) _ _ (words_new W6 [18445336698825998337] _ (by decide) (by decide) rfl 26)
    rw [aw_reach] at this
    exact this
  have fin : Hid (∀ w', Below (W6.alloc (.cells #[.int .u64 18445336698825998337] 26)).heap.size (W6.alloc (.cells #[.int .u64 18445336698825998337] 26)) w' → Below W.heap.size W w') := by
    show ∀ w', _
    intro w' hB8
    have hB4 : Below W1.heap.size W1 W1 := Below.refl _ _
    have u14 : Upd (fun k => W.heap.size ≤ k ∧ k < W1.heap.size) W1 W4 := (hU2.trans hU3).trans (hU4.mono (fun k e => by
      rcases e with (e | e) | e
      · exact .inl e
      · exact .inr ⟨e.1, by have := hU3.size; omega⟩
      · exact .inr ⟨by have := hU2.size; omega, e.2⟩))
    have b14 : Below W.heap.size W1 W4 := u14.below hB1.size (fun k e => e.1)
    have b4 : Below W.heap.size W W4 := hB1.trans b14
    have z1 := b4.size
    have z2 := hB46.size
    have z3 := hB7.size
    exact ((b4.trans (hB46.mono z1)).trans (hB7.mono (by omega))).trans (hB8.mono (by omega))
  clear hB46 hB7 l7 l4 hB5 hB6 g1 g2 g3 g4 hU2 hU3 hU4 e6
  go_wp2_with (go_at_call 11; (with_reducible refine c5.mono ?_); rintro e w8 ⟨rfl, hB8⟩; clear c5)
  go_ret
  exact ⟨rfl, fin.out _ hB8⟩
end Go.Proofs.Ytjkipdkdjgnpoab.W
