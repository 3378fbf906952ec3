import Derived.Test.YtbgabpgohkcahaaV7cJ
/- Package value: Unbox, of a number in a cell. -/
namespace Go.Proofs.Ytbgabpgohkcahaa.W
open Go.ChangeShapes Go.WideShapes Go.RowKit Go.Shelf
set_option linter.unusedVariables false
section
variable {W W' : World} {hb sb : Nat} {vc : Value} {T : Nat → Prop} {H : List (Option Hc)} {u h : Nat}
theorem valT : (Try.prog.underlying 28).map (fun d => match d with | .struct _ | .array _ _ => true | _ => false) = some true := by kernel_rfl
theorem valSz : (Try.prog.info? 28).map (·.size) = some 5 := by kernel_rfl
theorem val_ret2 {fn : Func} {p q : Tmp} (h : fn.results = #[.cell p 28, .tmp q]) (tmps : Array Value) (w : World) (gb : Nat) (v0 v1 v2 v3 v4 : Value) (fr : Nat × Nat) (hp : tmps.getD p undef = .pointer (some ⟨gb, 0, none⟩)) (hg : w.heap[gb]? = some (.cells #[v0, v1, v2, v3, v4] 28 fr)) : (results fn tmps).run Try.prog w = .ok (.tuple #[.agg #[v0, v1, v2, v3, v4], tmps.getD q undef]) w := by
  have ht := valT
  rw [results_cell_tmp h, hp]
  cases hu : Try.prog.underlying 28 with
  | none => rw [hu] at ht; cases ht
  | some d =>
    rw [hu] at ht
    simp only [Option.map_some, Option.some.injEq] at ht
    have hl := run_loadVar_row (P := Try.prog) w gb 28 28 #[v0, v1, v2, v3, v4] fr d hg hu (by cases d <;> first | rfl | exact ht) (by rw [valSz]; rfl)
    simp [asAddr, hl]
theorem five_set {w : World} {gb : Nat} {z0 z1 z2 z3 z4 : Value} {t : TypeId} (hg : w.heap[gb]? = some (.cells #[z0, z1, z2, z3, z4] t (0, 0))) (v0 v1 v2 v3 v4 : Value) : (((((w.setCell ⟨gb, 0, none⟩ v0).setCell ⟨gb, 1, none⟩ v1).setCell ⟨gb, 2, none⟩ v2).setCell ⟨gb, 3, none⟩ v3).setCell ⟨gb, 4, none⟩ v4).heap[gb]? = some (.cells #[v0, v1, v2, v3, v4] t (0, 0)) := by
  have h0 : w.heap[gb]? = some (.cells [z0, z1, z2, z3, z4].toArray t (0, 0)) := hg
  have h1 := heap_set h0 0 v0
  have h2 := heap_set h1 1 v1
  have h3 := heap_set h2 2 v2
  have h4 := heap_set h3 3 v3
  exact heap_set h4 4 v4
theorem five_below {w a : World} {gb B : Nat} (h : Below B a w) (hB : B ≤ gb) (v0 v1 v2 v3 v4 : Value) : Below B a (((((w.setCell ⟨gb, 0, none⟩ v0).setCell ⟨gb, 1, none⟩ v1).setCell ⟨gb, 2, none⟩ v2).setCell ⟨gb, 3, none⟩ v3).setCell ⟨gb, 4, none⟩ v4) :=
  ((((h.setCell (p := ⟨gb, 0, none⟩) hB v0).setCell (p := ⟨gb, 1, none⟩) hB v1).setCell (p := ⟨gb, 2, none⟩) hB v2).setCell (p := ⟨gb, 3, none⟩) hB v3).setCell (p := ⟨gb, 4, none⟩) hB v4
theorem unboxCell_num (g : HLay W hb sb vc T H u h) (w : Nat) (hw : w < 18446744073709551616) (id : Nat) (hi : hit H w = some id) (i : Int) (hc : H[id]? = some (some (.num i))) :
    Calls Try.prog 31 #[.pointer (some ⟨hb, 0, none⟩), .int .u64 w] W fun e w' => e = .returned (.tuple #[.agg #[.int .i64 2, .int .i64 i, .int .u64 0, .string ⟨#[]⟩, .int .u64 0], .int .i64 0]) ∧ Below W.heap.size W w' := by
  have hB1 : Below W.heap.size W (W.alloc (.cells #[.int .i64 0, .int .i64 0, .int .u64 0, .string ⟨#[]⟩, .int .u64 0] 28)) := (Below.refl _ W).alloc (Nat.le_refl _) _
  have hs1 : (W.alloc (.cells #[.int .i64 0, .int .i64 0, .int .u64 0, .string ⟨#[]⟩, .int .u64 0] 28)).heap.size = W.heap.size + 1 := World.size_alloc ..
  have f1 := World.alloc_heap_new W (.cells #[.int .i64 0, .int .i64 0, .int .u64 0, .string ⟨#[]⟩, .int .u64 0] 28)
  have cg := get_num (g.below hB1) w hw id hi i hc
  have kp : Hid (∀ w4, Below (W.alloc (.cells #[.int .i64 0, .int .i64 0, .int .u64 0, .string ⟨#[]⟩, .int .u64 0] 28)).heap.size (W.alloc (.cells #[.int .i64 0, .int .i64 0, .int .u64 0, .string ⟨#[]⟩, .int .u64 0] 28)) w4 → w4.heap[W.heap.size]? = some (.cells #[.int .i64 0, .int .i64 0, .int .u64 0, .string ⟨#[]⟩, .int .u64 0] 28) ∧ Below W.heap.size W w4 ∧ W.heap.size + 1 ≤ w4.heap.size) := by
    show ∀ w4, _
    intro w4 hB4
    exact ⟨(hB4.block _ (by omega)).trans f1, hB1.trans (hB4.mono hB1.size), by have := hB4.size; omega⟩
  clear g hc
  go_enter Try.func31, Try.ntmps31
  go_upto_region 1 with fail
  generalize W.alloc (.cells #[.int .i64 0, .int .i64 0, .int .u64 0, .string ⟨#[]⟩, .int .u64 0] 28) = W1 at *
  go_upto_region 2 with (go_at_call 38; (with_reducible refine cg.mono ?_); rintro e w4 ⟨rfl, hB4⟩; clear cg; (obtain ⟨fR, hBf, hz4⟩ := kp.out w4 hB4))
  have hB5 : Below w4.heap.size w4 (w4.alloc (.cells #[.int .i64 2, .bool false, .int .i64 i, .string ByteArray.empty, .slice none 0 0, .slice none 0 0, .int .u64 0, .int .i64 0, .int .i64 0] 43)) := (Below.refl _ w4).alloc (Nat.le_refl _) _
  have e5 := World.cell?_alloc_new w4 #[.int .i64 2, .bool false, .int .i64 i, .string ByteArray.empty, .slice none 0 0, .slice none 0 0, .int .u64 0, .int .i64 0, .int .i64 0] 43
  have d0 := e5 0
  have d2 := e5 2
  simp only [List.getElem?_toArray, List.getElem?_cons_succ, List.getElem?_cons_zero] at d0 d2
  generalize w4.alloc (.cells #[.int .i64 2, .bool false, .int .i64 i, .string ByteArray.empty, .slice none 0 0, .slice none 0 0, .int .u64 0, .int .i64 0, .int .i64 0] 43) = W5 at *
  have f5 : W5.heap[W.heap.size]? = some (.cells #[.int .i64 0, .int .i64 0, .int .u64 0, .string ⟨#[]⟩, .int .u64 0] 28) := (hB5.block _ (by omega)).trans fR
  have hBe : Below W.heap.size W W5 := hBf.trans (hB5.mono hBf.size)
  have eR := fun j => cell_of_row W5 W.heap.size j _ _ _ f5
  have zR : ∀ j, W5.frozen? ⟨W.heap.size, j, none⟩ = false := fun j => by simp [World.frozen?, f5]
  have FR := hid f5
  clear f5 fR hB5 hBf hB4 e5 hz4
  go_wp2
  refine bodyPost_ret (val_ret2 rfl _ _ W.heap.size _ _ _ _ _ (0, 0) rfl (five_set FR.out _ _ _ _ _)) rfl ?_
  exact ⟨rfl, five_below hBe (Nat.le_refl _) _ _ _ _ _⟩
theorem unbox_num (g : HLay W hb sb vc T H u h) (w : Nat) (hw : w < 18446744073709551616) (hcl : cls (w : Int) = 6) (id : Nat) (hi : hit H w = some id) (i : Int) (hc : H[id]? = some (some (.num i))) :
    Calls Try.prog 9 #[.pointer (some ⟨hb, 0, none⟩), .int .u64 w] W fun e w' => e = .returned (.tuple #[.agg #[.int .i64 2, .int .i64 i, .int .u64 0, .string ⟨#[]⟩, .int .u64 0], .int .i64 0]) ∧ Below W.heap.size W w' := by
  have hB1 : Below W.heap.size W (W.alloc (.cells #[.int .i64 0, .int .i64 0, .int .u64 0, .string ⟨#[]⟩, .int .u64 0] 28)) := (Below.refl _ W).alloc (Nat.le_refl _) _
  have hs1 : (W.alloc (.cells #[.int .i64 0, .int .i64 0, .int .u64 0, .string ⟨#[]⟩, .int .u64 0] 28)).heap.size = W.heap.size + 1 := World.size_alloc ..
  have f1 := World.alloc_heap_new W (.cells #[.int .i64 0, .int .i64 0, .int .u64 0, .string ⟨#[]⟩, .int .u64 0] 28)
  have cc := fun W => class_c (w : Int) (by omega) (by omega) W
  rw [hcl] at cc
  have cu := unboxCell_num (g.below hB1) w hw id hi i hc
  have kp : Hid (∀ w4, Below (W.alloc (.cells #[.int .i64 0, .int .i64 0, .int .u64 0, .string ⟨#[]⟩, .int .u64 0] 28)).heap.size (W.alloc (.cells #[.int .i64 0, .int .i64 0, .int .u64 0, .string ⟨#[]⟩, .int .u64 0] 28)) w4 → w4.heap[W.heap.size]? = some (.cells #[.int .i64 0, .int .i64 0, .int .u64 0, .string ⟨#[]⟩, .int .u64 0] 28) ∧ Below W.heap.size W w4) := by
    show ∀ w4, _
    intro w4 hB4
    exact ⟨(hB4.block _ (by omega)).trans f1, hB1.trans (hB4.mono hB1.size)⟩
  clear g hc hcl
  go_enter Try.func9, Try.ntmps9
  go_upto_region 1 with fail
  generalize W.alloc (.cells #[.int .i64 0, .int .i64 0, .int .u64 0, .string ⟨#[]⟩, .int .u64 0] 28) = W1 at *
  go_wp2_with (first | (go_at_call 27; (with_reducible refine (cc _).mono ?_); rintro e w' ⟨rfl, hw⟩; (have hw' := hw.symm); subst hw'; clear hw) | (go_at_call 31; (with_reducible refine cu.mono ?_); rintro e w4 ⟨rfl, hB4⟩; clear cu; (obtain ⟨fR, hBf⟩ := kp.out w4 hB4); (have eR := fun j => cell_of_row w4 W.heap.size j _ _ _ fR); (have zR := (fun j => by simp [World.frozen?, fR] : ∀ j, w4.frozen? ⟨W.heap.size, j, none⟩ = false)); (have FR := hid fR); clear fR))
  refine bodyPost_ret (val_ret2 rfl _ _ W.heap.size _ _ _ _ _ (0, 0) rfl (five_set FR.out _ _ _ _ _)) rfl ?_
  exact ⟨rfl, five_below hBf (Nat.le_refl _) _ _ _ _ _⟩
end
end Go.Proofs.Ytbgabpgohkcahaa.W
