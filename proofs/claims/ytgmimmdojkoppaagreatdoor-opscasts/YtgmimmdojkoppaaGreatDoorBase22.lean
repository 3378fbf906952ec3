import Derived.Test.YtgmimmdojkoppaaGreatDoorBase21
import Derived.Test.YtgmimmdojkoppaaGreatDoorBase16
import Derived.Test.YtgmimmdojkoppaaGreatDoorBase14
/- Package value: unboxCell by Look and Get. -/
namespace Go.Proofs.YtgmimmdojkoppaaGreatDoor.W
open Go.ChangeShapes Go.WideShapes Go.RowKit Go.Shelf
set_option linter.unusedVariables false
section
variable {W W' : World} {hb sb : Nat} {vc : Value} {T : Nat → Prop} {H : List (Option Hc)} {u h : Nat}
theorem valT : (Tryz.prog.underlying 47).map (fun d => match d with | .struct _ | .array _ _ => true | _ => false) = some true := by kernel_rfl
theorem valSz : (Tryz.prog.info? 47).map (·.size) = some 5 := by kernel_rfl
theorem val_ret2 {fn : Func} {p q : Tmp} (h : fn.results = #[.cell p 47, .tmp q]) (tmps : Array Value) (w : World) (gb : Nat) (v0 v1 v2 v3 v4 : Value) (fr : Nat × Nat) (hp : tmps.getD p undef = .pointer (some ⟨gb, 0, none⟩)) (hg : w.heap[gb]? = some (.cells #[v0, v1, v2, v3, v4] 47 fr)) : (results fn tmps).run Tryz.prog w = .ok (.tuple #[.agg #[v0, v1, v2, v3, v4], tmps.getD q undef]) w := by
  have ht := valT
  rw [results_cell_tmp h, hp]
  cases hu : Tryz.prog.underlying 47 with
  | none => rw [hu] at ht; cases ht
  | some d =>
    rw [hu] at ht
    simp only [Option.map_some, Option.some.injEq] at ht
    have hl := run_loadVar_row (P := Tryz.prog) w gb 47 47 #[v0, v1, v2, v3, v4] fr d hg hu (by cases d <;> first | rfl | exact ht) (by rw [valSz]; rfl)
    simp [asAddr, hl]
theorem five_set {w : World} {gb : Nat} {z0 z1 z2 z3 z4 : Value} {t : TypeId} (hg : w.heap[gb]? = some (.cells #[z0, z1, z2, z3, z4] t (0, 0))) (v0 v1 v2 v3 v4 : Value) : (((((w.setCell ⟨gb, 0, none⟩ v0).setCell ⟨gb, 1, none⟩ v1).setCell ⟨gb, 2, none⟩ v2).setCell ⟨gb, 3, none⟩ v3).setCell ⟨gb, 4, none⟩ v4).heap[gb]? = some (.cells #[v0, v1, v2, v3, v4] t (0, 0)) := by
  have h0 : w.heap[gb]? = some (.cells [z0, z1, z2, z3, z4].toArray t (0, 0)) := hg
  have h1 := heap_set h0 0 v0
  have h2 := heap_set h1 1 v1
  have h3 := heap_set h2 2 v2
  have h4 := heap_set h3 3 v3
  exact heap_set h4 4 v4
theorem five_below {w a : World} {gb B : Nat} (h : Below B a w) (hB : B ≤ gb) (v0 v1 v2 v3 v4 : Value) : Below B a (((((w.setCell ⟨gb, 0, none⟩ v0).setCell ⟨gb, 1, none⟩ v1).setCell ⟨gb, 2, none⟩ v2).setCell ⟨gb, 3, none⟩ v3).setCell ⟨gb, 4, none⟩ v4) :=
  ((((h.setCell (p := ⟨gb, 0, none⟩) hB v0).setCell (p := ⟨gb, 1, none⟩) hB v1).setCell (p := ⟨gb, 2, none⟩) hB v2).setCell (p := ⟨gb, 3, none⟩) hB v3).setCell (p := ⟨gb, 4, none⟩) hB v4
theorem set_far9 (w : World) (gb : Nat) (v0 v1 v2 v3 v4 v5 v6 v7 v8 : Value) (k : Nat) (h : k ≠ gb) : (((((((((w.setCell ⟨gb, 0, none⟩ v0).setCell ⟨gb, 1, none⟩ v1).setCell ⟨gb, 2, none⟩ v2).setCell ⟨gb, 3, none⟩ v3).setCell ⟨gb, 4, none⟩ v4).setCell ⟨gb, 5, none⟩ v5).setCell ⟨gb, 6, none⟩ v6).setCell ⟨gb, 7, none⟩ v7).setCell ⟨gb, 8, none⟩ v8).heap[k]? = w.heap[k]? := by
  rw [Below.heap_setCell _ _ _ _ h, Below.heap_setCell _ _ _ _ h, Below.heap_setCell _ _ _ _ h, Below.heap_setCell _ _ _ _ h, Below.heap_setCell _ _ _ _ h, Below.heap_setCell _ _ _ _ h, Below.heap_setCell _ _ _ _ h, Below.heap_setCell _ _ _ _ h, Below.heap_setCell _ _ _ _ h]
/-- of a number's cell -/
theorem unboxCell_thru2 (g : HLay W hb sb vc T H u h) (w : Nat) (hw : w < 18446744073709551616) (id : Nat) (hi : hit H w = some id) (c : Hc) (hc : H[id]? = some (some c)) (hck : c.cl.kind = 2) (i : Int) (t : ByteArray)
    (hget : ∀ w1, Below W.heap.size W w1 → Calls Tryz.prog 92 #[.pointer (some ⟨hb, 0, none⟩), .int .u64 w] w1 fun e w' => e = .returned (.tuple #[.agg #[.int .i64 2, .bool false, .int .i64 i, .string t, .slice none 0 0, .slice none 0 0, .int .u64 0, .int .i64 0, .int .i64 0], .int .i64 0]) ∧ Below w1.heap.size w1 w') :
    Calls Tryz.prog 49 #[.pointer (some ⟨hb, 0, none⟩), .int .u64 w] W fun e w' => e = .returned (.tuple #[.agg #[.int .i64 2, .int .i64 i, .int .u64 0, .string t, .int .u64 0], .int .i64 0]) ∧ Below W.heap.size W w' := by
  have hB1 : Below W.heap.size W (W.alloc (.cells #[.int .i64 0, .int .i64 0, .int .u64 0, .string ⟨#[]⟩, .int .u64 0] 47)) := (Below.refl _ W).alloc (Nat.le_refl _) _
  have hs1 : ((W.alloc (.cells #[.int .i64 0, .int .i64 0, .int .u64 0, .string ⟨#[]⟩, .int .u64 0] 47))).heap.size = W.heap.size + 1 := World.size_alloc ..
  have f1 := World.alloc_heap_new W (.cells #[.int .i64 0, .int .i64 0, .int .u64 0, .string ⟨#[]⟩, .int .u64 0] 47)
  have cl := look_c (g.below hB1) w hw id hi c hc
  rw [hck] at cl
  generalize c.cl.view = vw at cl
  generalize ((c.cl.base : Nat) : Int) = ba at cl
  generalize c.cl.frm = fr at cl
  generalize c.cl.len = ln at cl
  generalize ((c.bytes.length : Nat) : Int) = bn at cl
  have kp : Hid (∀ w4, Below ((W.alloc (.cells #[.int .i64 0, .int .i64 0, .int .u64 0, .string ⟨#[]⟩, .int .u64 0] 47))).heap.size (W.alloc (.cells #[.int .i64 0, .int .i64 0, .int .u64 0, .string ⟨#[]⟩, .int .u64 0] 47)) w4 → w4.heap[W.heap.size]? = some (.cells #[.int .i64 0, .int .i64 0, .int .u64 0, .string ⟨#[]⟩, .int .u64 0] 47) ∧ Below W.heap.size W w4 ∧ W.heap.size + 1 ≤ w4.heap.size) := by
    show ∀ w4, _
    intro w4 hB4
    exact ⟨(hB4.block _ (by omega)).trans f1, hB1.trans (hB4.mono hB1.size), by have := hB4.size; omega⟩
  have hG := hid hget
  clear g hc hck f1 hi hget hB1 hs1
  go_enter Tryz.func49, Tryz.ntmps49
  go_upto_region 1 with fail
  generalize W.alloc (.cells #[.int .i64 0, .int .i64 0, .int .u64 0, .string ⟨#[]⟩, .int .u64 0] 47) = W1 at *
  go_upto_region 2 with (go_at_call 66; (with_reducible refine cl.mono ?_); rintro e w4 ⟨rfl, hB4⟩; clear cl; (obtain ⟨fR, hBf, hz4⟩ := kp.out w4 hB4))
  have hB5 : Below w4.heap.size w4 (w4.alloc (.cells #[.int .i64 2, .bool vw, .int .i64 0, .string ByteArray.empty, .slice none 0 0, .slice none 0 0, .int .u64 ba, .int .i64 fr, .int .i64 ln] 99)) := (Below.refl _ w4).alloc (Nat.le_refl _) _
  have fN := World.alloc_heap_new w4 (.cells #[.int .i64 2, .bool vw, .int .i64 0, .string ByteArray.empty, .slice none 0 0, .slice none 0 0, .int .u64 ba, .int .i64 fr, .int .i64 ln] 99)
  have hs5 : (w4.alloc (.cells #[.int .i64 2, .bool vw, .int .i64 0, .string ByteArray.empty, .slice none 0 0, .slice none 0 0, .int .u64 ba, .int .i64 fr, .int .i64 ln] 99)).heap.size = w4.heap.size + 1 := World.size_alloc ..
  have hBe : Below W.heap.size W (w4.alloc (.cells #[.int .i64 2, .bool vw, .int .i64 0, .string ByteArray.empty, .slice none 0 0, .slice none 0 0, .int .u64 ba, .int .i64 fr, .int .i64 ln] 99)) := hBf.trans (hB5.mono hBf.size)
  have f5 : (w4.alloc (.cells #[.int .i64 2, .bool vw, .int .i64 0, .string ByteArray.empty, .slice none 0 0, .slice none 0 0, .int .u64 ba, .int .i64 fr, .int .i64 ln] 99)).heap[W.heap.size]? = some (.cells #[.int .i64 0, .int .i64 0, .int .u64 0, .string ⟨#[]⟩, .int .u64 0] 47) := (hB5.block _ (by omega)).trans fR
  obtain ⟨nb, hnb⟩ : ∃ nb, w4.heap.size = nb := ⟨_, rfl⟩
  clear hB5 hBf hB4 fR kp
  rw [hnb] at fN hs5 hz4
  rw [hnb]
  clear hnb
  generalize World.alloc w4 _ = W5 at *
  have eN := fun j => cell_of_row W5 nb j _ _ _ fN
  have cg := hG.out W5 hBe
  have kp2 : Hid (∀ w6, Below W5.heap.size W5 w6 → w6.heap[W.heap.size]? = some (.cells #[.int .i64 0, .int .i64 0, .int .u64 0, .string ⟨#[]⟩, .int .u64 0] 47) ∧ w6.heap[nb]? = some (.cells #[.int .i64 2, .bool vw, .int .i64 0, .string ByteArray.empty, .slice none 0 0, .slice none 0 0, .int .u64 ba, .int .i64 fr, .int .i64 ln] 99) ∧ Below W.heap.size W w6 ∧ W.heap.size + 1 ≤ nb) := by
    show ∀ w6, _
    intro w6 hB6
    exact ⟨(hB6.block _ (by omega)).trans f5, (hB6.block _ (by omega)).trans fN, hBe.trans (hB6.mono hBe.size), hz4⟩
  clear hG fN hs5 hz4 f5 hBe
  go_upto_region 8 with (go_at_call 92; (with_reducible refine cg.mono ?_); rintro e w6 ⟨rfl, hB6⟩; clear cg; (obtain ⟨fR, fN, hBf, hz6⟩ := kp2.out w6 hB6); (have eN6 := fun j => cell_of_row w6 nb j _ _ _ fN); (have zN := (fun j => by simp [World.frozen?, fN] : ∀ j, w6.frozen? ⟨nb, j, none⟩ = false)); (have FR := hid fR); (have FN := hid fN); (have HBf := hid hBf); (have HZ := hid hz6); clear fR fN hBf hz6 hB6)
  have hz := HZ.out
  have fN8 := nine_set FN.out (.int .i64 2) (.bool false) (.int .i64 i) (.string t) (.slice none 0 0) (.slice none 0 0) (.int .u64 0) (.int .i64 0) (.int .i64 0)
  have fR8 := (set_far9 w6 nb (.int .i64 2) (.bool false) (.int .i64 i) (.string t) (.slice none 0 0) (.slice none 0 0) (.int .u64 0) (.int .i64 0) (.int .i64 0) W.heap.size (by omega)).trans FR.out
  have hB8 := nine_below HBf.out (show W.heap.size ≤ nb by omega) (.int .i64 2) (.bool false) (.int .i64 i) (.string t) (.slice none 0 0) (.slice none 0 0) (.int .u64 0) (.int .i64 0) (.int .i64 0)
  clear eN6 zN FR FN HBf HZ eN
  generalize World.setCell _ ⟨nb, 8, none⟩ _ = W8 at *
  have eN8 := fun j => cell_of_row W8 nb j _ _ _ fN8
  have eR := fun j => cell_of_row W8 W.heap.size j _ _ _ fR8
  have zR : ∀ j, W8.frozen? ⟨W.heap.size, j, none⟩ = false := fun j => by simp [World.frozen?, fR8]
  have FR := hid fR8
  have HB := hid hB8
  clear fN8 fR8 hB8 hz
  go_wp2
  refine bodyPost_ret (val_ret2 rfl _ _ W.heap.size _ _ _ _ _ (0, 0) rfl (five_set FR.out _ _ _ _ _)) rfl ?_
  exact ⟨rfl, five_below HB.out (Nat.le_refl _) _ _ _ _ _⟩
/-- of a text's cell -/
theorem unboxCell_thru4 (g : HLay W hb sb vc T H u h) (w : Nat) (hw : w < 18446744073709551616) (id : Nat) (hi : hit H w = some id) (c : Hc) (hc : H[id]? = some (some c)) (hck : c.cl.kind = 4) (i : Int) (t : ByteArray)
    (hget : ∀ w1, Below W.heap.size W w1 → Calls Tryz.prog 92 #[.pointer (some ⟨hb, 0, none⟩), .int .u64 w] w1 fun e w' => e = .returned (.tuple #[.agg #[.int .i64 4, .bool false, .int .i64 i, .string t, .slice none 0 0, .slice none 0 0, .int .u64 0, .int .i64 0, .int .i64 0], .int .i64 0]) ∧ Below w1.heap.size w1 w') :
    Calls Tryz.prog 49 #[.pointer (some ⟨hb, 0, none⟩), .int .u64 w] W fun e w' => e = .returned (.tuple #[.agg #[.int .i64 4, .int .i64 i, .int .u64 0, .string t, .int .u64 0], .int .i64 0]) ∧ Below W.heap.size W w' := by
  have hB1 : Below W.heap.size W (W.alloc (.cells #[.int .i64 0, .int .i64 0, .int .u64 0, .string ⟨#[]⟩, .int .u64 0] 47)) := (Below.refl _ W).alloc (Nat.le_refl _) _
  have hs1 : ((W.alloc (.cells #[.int .i64 0, .int .i64 0, .int .u64 0, .string ⟨#[]⟩, .int .u64 0] 47))).heap.size = W.heap.size + 1 := World.size_alloc ..
  have f1 := World.alloc_heap_new W (.cells #[.int .i64 0, .int .i64 0, .int .u64 0, .string ⟨#[]⟩, .int .u64 0] 47)
  have cl := look_c (g.below hB1) w hw id hi c hc
  rw [hck] at cl
  generalize c.cl.view = vw at cl
  generalize ((c.cl.base : Nat) : Int) = ba at cl
  generalize c.cl.frm = fr at cl
  generalize c.cl.len = ln at cl
  generalize ((c.bytes.length : Nat) : Int) = bn at cl
  have kp : Hid (∀ w4, Below ((W.alloc (.cells #[.int .i64 0, .int .i64 0, .int .u64 0, .string ⟨#[]⟩, .int .u64 0] 47))).heap.size (W.alloc (.cells #[.int .i64 0, .int .i64 0, .int .u64 0, .string ⟨#[]⟩, .int .u64 0] 47)) w4 → w4.heap[W.heap.size]? = some (.cells #[.int .i64 0, .int .i64 0, .int .u64 0, .string ⟨#[]⟩, .int .u64 0] 47) ∧ Below W.heap.size W w4 ∧ W.heap.size + 1 ≤ w4.heap.size) := by
    show ∀ w4, _
    intro w4 hB4
    exact ⟨(hB4.block _ (by omega)).trans f1, hB1.trans (hB4.mono hB1.size), by have := hB4.size; omega⟩
  have hG := hid hget
  clear g hc hck f1 hi hget hB1 hs1
  go_enter Tryz.func49, Tryz.ntmps49
  go_upto_region 1 with fail
  generalize W.alloc (.cells #[.int .i64 0, .int .i64 0, .int .u64 0, .string ⟨#[]⟩, .int .u64 0] 47) = W1 at *
  go_upto_region 2 with (go_at_call 66; (with_reducible refine cl.mono ?_); rintro e w4 ⟨rfl, hB4⟩; clear cl; (obtain ⟨fR, hBf, hz4⟩ := kp.out w4 hB4))
  have hB5 : Below w4.heap.size w4 (w4.alloc (.cells #[.int .i64 4, .bool vw, .int .i64 0, .string ByteArray.empty, .slice none 0 0, .slice none 0 0, .int .u64 ba, .int .i64 fr, .int .i64 ln] 99)) := (Below.refl _ w4).alloc (Nat.le_refl _) _
  have fN := World.alloc_heap_new w4 (.cells #[.int .i64 4, .bool vw, .int .i64 0, .string ByteArray.empty, .slice none 0 0, .slice none 0 0, .int .u64 ba, .int .i64 fr, .int .i64 ln] 99)
  have hs5 : (w4.alloc (.cells #[.int .i64 4, .bool vw, .int .i64 0, .string ByteArray.empty, .slice none 0 0, .slice none 0 0, .int .u64 ba, .int .i64 fr, .int .i64 ln] 99)).heap.size = w4.heap.size + 1 := World.size_alloc ..
  have hBe : Below W.heap.size W (w4.alloc (.cells #[.int .i64 4, .bool vw, .int .i64 0, .string ByteArray.empty, .slice none 0 0, .slice none 0 0, .int .u64 ba, .int .i64 fr, .int .i64 ln] 99)) := hBf.trans (hB5.mono hBf.size)
  have f5 : (w4.alloc (.cells #[.int .i64 4, .bool vw, .int .i64 0, .string ByteArray.empty, .slice none 0 0, .slice none 0 0, .int .u64 ba, .int .i64 fr, .int .i64 ln] 99)).heap[W.heap.size]? = some (.cells #[.int .i64 0, .int .i64 0, .int .u64 0, .string ⟨#[]⟩, .int .u64 0] 47) := (hB5.block _ (by omega)).trans fR
  obtain ⟨nb, hnb⟩ : ∃ nb, w4.heap.size = nb := ⟨_, rfl⟩
  clear hB5 hBf hB4 fR kp
  rw [hnb] at fN hs5 hz4
  rw [hnb]
  clear hnb
  generalize World.alloc w4 _ = W5 at *
  have eN := fun j => cell_of_row W5 nb j _ _ _ fN
  have cg := hG.out W5 hBe
  have kp2 : Hid (∀ w6, Below W5.heap.size W5 w6 → w6.heap[W.heap.size]? = some (.cells #[.int .i64 0, .int .i64 0, .int .u64 0, .string ⟨#[]⟩, .int .u64 0] 47) ∧ w6.heap[nb]? = some (.cells #[.int .i64 4, .bool vw, .int .i64 0, .string ByteArray.empty, .slice none 0 0, .slice none 0 0, .int .u64 ba, .int .i64 fr, .int .i64 ln] 99) ∧ Below W.heap.size W w6 ∧ W.heap.size + 1 ≤ nb) := by
    show ∀ w6, _
    intro w6 hB6
    exact ⟨(hB6.block _ (by omega)).trans f5, (hB6.block _ (by omega)).trans fN, hBe.trans (hB6.mono hBe.size), hz4⟩
  clear hG fN hs5 hz4 f5 hBe
  go_upto_region 8 with (go_at_call 92; (with_reducible refine cg.mono ?_); rintro e w6 ⟨rfl, hB6⟩; clear cg; (obtain ⟨fR, fN, hBf, hz6⟩ := kp2.out w6 hB6); (have eN6 := fun j => cell_of_row w6 nb j _ _ _ fN); (have zN := (fun j => by simp [World.frozen?, fN] : ∀ j, w6.frozen? ⟨nb, j, none⟩ = false)); (have FR := hid fR); (have FN := hid fN); (have HBf := hid hBf); (have HZ := hid hz6); clear fR fN hBf hz6 hB6)
  have hz := HZ.out
  have fN8 := nine_set FN.out (.int .i64 4) (.bool false) (.int .i64 i) (.string t) (.slice none 0 0) (.slice none 0 0) (.int .u64 0) (.int .i64 0) (.int .i64 0)
  have fR8 := (set_far9 w6 nb (.int .i64 4) (.bool false) (.int .i64 i) (.string t) (.slice none 0 0) (.slice none 0 0) (.int .u64 0) (.int .i64 0) (.int .i64 0) W.heap.size (by omega)).trans FR.out
  have hB8 := nine_below HBf.out (show W.heap.size ≤ nb by omega) (.int .i64 4) (.bool false) (.int .i64 i) (.string t) (.slice none 0 0) (.slice none 0 0) (.int .u64 0) (.int .i64 0) (.int .i64 0)
  clear eN6 zN FR FN HBf HZ eN
  generalize World.setCell _ ⟨nb, 8, none⟩ _ = W8 at *
  have eN8 := fun j => cell_of_row W8 nb j _ _ _ fN8
  have eR := fun j => cell_of_row W8 W.heap.size j _ _ _ fR8
  have zR : ∀ j, W8.frozen? ⟨W.heap.size, j, none⟩ = false := fun j => by simp [World.frozen?, fR8]
  have FR := hid fR8
  have HB := hid hB8
  clear fN8 fR8 hB8 hz
  go_wp2
  refine bodyPost_ret (val_ret2 rfl _ _ W.heap.size _ _ _ _ _ (0, 0) rfl (five_set FR.out _ _ _ _ _)) rfl ?_
  exact ⟨rfl, five_below HB.out (Nat.le_refl _) _ _ _ _ _⟩
end
end Go.Proofs.YtgmimmdojkoppaaGreatDoor.W
/- Package value: Unbox, of a number in a cell. -/
namespace Go.Proofs.YtgmimmdojkoppaaGreatDoor.W
open Go.ChangeShapes Go.WideShapes Go.RowKit Go.Shelf
set_option linter.unusedVariables false
section
variable {W W' : World} {hb sb : Nat} {vc : Value} {T : Nat → Prop} {H : List (Option Hc)} {u h : Nat}
theorem unboxCell_num (g : HLay W hb sb vc T H u h) (w : Nat) (hw : w < 18446744073709551616) (id : Nat) (hi : hit H w = some id) (i : Int) (hc : H[id]? = some (some (.num i))) :
    Calls Tryz.prog 49 #[.pointer (some ⟨hb, 0, none⟩), .int .u64 w] W fun e w' => e = .returned (.tuple #[.agg #[.int .i64 2, .int .i64 i, .int .u64 0, .string ⟨#[]⟩, .int .u64 0], .int .i64 0]) ∧ Below W.heap.size W w' :=
  unboxCell_thru2 g w hw id hi (.num i) hc rfl i ByteArray.empty (fun w1 hB => get_num (g.below hB) w hw id hi i hc)
theorem unbox_num (g : HLay W hb sb vc T H u h) (w : Nat) (hw : w < 18446744073709551616) (hcl : cls (w : Int) = 6) (id : Nat) (hi : hit H w = some id) (i : Int) (hc : H[id]? = some (some (.num i))) :
    Calls Tryz.prog 18 #[.pointer (some ⟨hb, 0, none⟩), .int .u64 w] W fun e w' => e = .returned (.tuple #[.agg #[.int .i64 2, .int .i64 i, .int .u64 0, .string ⟨#[]⟩, .int .u64 0], .int .i64 0]) ∧ Below W.heap.size W w' := by
  have hB1 : Below W.heap.size W (W.alloc (.cells #[.int .i64 0, .int .i64 0, .int .u64 0, .string ⟨#[]⟩, .int .u64 0] 47)) := (Below.refl _ W).alloc (Nat.le_refl _) _
  have hs1 : (W.alloc (.cells #[.int .i64 0, .int .i64 0, .int .u64 0, .string ⟨#[]⟩, .int .u64 0] 47)).heap.size = W.heap.size + 1 := World.size_alloc ..
  have f1 := World.alloc_heap_new W (.cells #[.int .i64 0, .int .i64 0, .int .u64 0, .string ⟨#[]⟩, .int .u64 0] 47)
  have cc := fun W => class_c (w : Int) (by omega) (by omega) W
  rw [hcl] at cc
  have cu := unboxCell_num (g.below hB1) w hw id hi i hc
  have kp : Hid (∀ w4, Below (W.alloc (.cells #[.int .i64 0, .int .i64 0, .int .u64 0, .string ⟨#[]⟩, .int .u64 0] 47)).heap.size (W.alloc (.cells #[.int .i64 0, .int .i64 0, .int .u64 0, .string ⟨#[]⟩, .int .u64 0] 47)) w4 → w4.heap[W.heap.size]? = some (.cells #[.int .i64 0, .int .i64 0, .int .u64 0, .string ⟨#[]⟩, .int .u64 0] 47) ∧ Below W.heap.size W w4) := by
    show ∀ w4, _
    intro w4 hB4
    exact ⟨(hB4.block _ (by omega)).trans f1, hB1.trans (hB4.mono hB1.size)⟩
  clear g hc hcl
  go_enter Tryz.func18, Tryz.ntmps18
  go_upto_region 1 with fail
  generalize W.alloc (.cells #[.int .i64 0, .int .i64 0, .int .u64 0, .string ⟨#[]⟩, .int .u64 0] 47) = W1 at *
  go_wp2_with (first | (go_at_call 45; (with_reducible refine (cc _).mono ?_); rintro e w' ⟨rfl, hw⟩; (have hw' := hw.symm); subst hw'; clear hw) | (go_at_call 49; (with_reducible refine cu.mono ?_); rintro e w4 ⟨rfl, hB4⟩; clear cu; (obtain ⟨fR, hBf⟩ := kp.out w4 hB4); (have eR := fun j => cell_of_row w4 W.heap.size j _ _ _ fR); (have zR := (fun j => by simp [World.frozen?, fR] : ∀ j, w4.frozen? ⟨W.heap.size, j, none⟩ = false)); (have FR := hid fR); clear fR))
  refine bodyPost_ret (val_ret2 rfl _ _ W.heap.size _ _ _ _ _ (0, 0) rfl (five_set FR.out _ _ _ _ _)) rfl ?_
  exact ⟨rfl, five_below hBf (Nat.le_refl _) _ _ _ _ _⟩
end
end Go.Proofs.YtgmimmdojkoppaaGreatDoor.W
/- Package heap: loadBytes. -/
namespace Go.Proofs.YtgmimmdojkoppaaGreatDoor.W
open Go.ChangeShapes Go.WideShapes Go.RowKit Go.Shelf
set_option linter.unusedVariables false
theorem info8 : (Tryz.prog.info? 5).map (fun i => (i.zero, i.size, i.bytes)) = some (some (.int .u8 0), 1, 1) := by kernel_rfl
theorem under8 : Tryz.prog.underlying 66 = some (.slice 5) := by kernel_rfl
theorem make_bytes (w : World) (n : Nat) (hn : n ≤ 8388608) : ∃ w', (Instr.makeSlice 66 (.int .i64 (n : Int)) (.int .i64 (n : Int))).run Tryz.prog w = .ok (.slice (some ⟨w.heap.size, 0, none⟩) n n) w' ∧ w'.ownsRow w.heap.size 5 1 (.slice (some ⟨w.heap.size, 0, none⟩) n n) n ((List.replicate n 0).map byteV) ∧ w.grownBy w' none := by
  obtain ⟨i0, hi, hz0, hz1, hz2⟩ := info_parts info8
  obtain ⟨w', h1, h2, h3⟩ := run_makeSlice_full (P := Tryz.prog) w w.heap.size 66 5 i0 (.int .u8 0) 1 under8 hi hz0 hz1 .i64 .i64 n (by omega) (by rw [hz2]; omega) (by simp [maxLen]; omega) (Nat.le_refl _)
  refine ⟨w', h1, ?_, h3⟩
  have e : (madeCells (Value.int .u8 0).cells (n * 1)).toList = (List.replicate n 0).map byteV := by
    rw [Nat.mul_one, List.map_replicate]
    exact made_one _ n
  rw [← e]
  exact h2
section
variable {W W' : World} {hb sb : Nat} {vc : Value} {T : Nat → Prop} {H : List (Option Hc)} {u h : Nat}
/-- along loadBytes: o bytes are there -/
structure LbI (W : World) (hb sb : Nat) (vc : Value) (T : Nat → Prop) (H : List (Option Hc)) (u h id gb Bb Bn : Nat) (bs : List Nat) (o : Nat) (W' : World) : Prop where
  lay : HLay W' hb sb vc T H u h
  b0 : Boxed W' W.heap.size 23 (.pointer (some ⟨hb, 0, none⟩))
  b1 : Boxed W' (W.heap.size + 1) 3 (.int .i64 id)
  bb : Boxed W' Bb 66 (.slice (some ⟨gb, 0, none⟩) bs.length bs.length)
  bn : Boxed W' Bn 3 (.int .i64 (bs.length : Nat))
  row : W'.ownsRow W.heap.size 5 1 (.slice (some ⟨gb, 0, none⟩) bs.length bs.length) bs.length ((upTo bs o).map byteV)
  bel : Below W.heap.size W W'
section
variable {id gb Bb Bn o : Nat} {bs : List Nat} {w2 : World}
theorem LbI.gge (q : LbI W hb sb vc T H u h id gb Bb Bn bs o W') : W.heap.size ≤ gb ∧ gb < W'.heap.size := q.row.lt gb rfl
theorem LbI.upd {S : Nat → Prop} (g : HLay W hb sb vc T H u h) (q : LbI W hb sb vc T H u h id gb Bb Bn bs o W') (hu : Upd S W' w2) (hS : ∀ k, S k → W.heap.size ≤ k) (h0 : ¬ S W.heap.size) (h1 : ¬ S (W.heap.size + 1)) (h2 : ¬ S Bb) (h3 : ¬ S Bn) (h4 : ¬ S gb) : LbI W hb sb vc T H u h id gb Bb Bn bs o w2 := by
  have hhb := g.hlt
  have hcv := g.clt
  have hst := g.tlt
  have hz := q.bel.size
  refine ⟨q.lay.upd hu (fun e => by have := hS _ e; omega) (fun k e e2 => by have := hcv k e; have := hS _ e2; omega) (fun k e e2 => by have := hst k e; have := hS _ e2; omega), box_of (hu.block _ q.b0.lt h0) q.b0, box_of (hu.block _ q.b1.lt h1) q.b1, box_of (hu.block _ q.bb.lt h2) q.bb, box_of (hu.block _ q.bn.lt h3) q.bn, owns_on q.row (fun k e => ?_), q.bel.trans (hu.below hz hS)⟩
  cases e
  exact hu.block _ q.gge.2 h4
theorem LbI.below (g : HLay W hb sb vc T H u h) (q : LbI W hb sb vc T H u h id gb Bb Bn bs o W') (hB : Below W'.heap.size W' w2) : LbI W hb sb vc T H u h id gb Bb Bn bs o w2 :=
  q.upd g (Upd.of_below (S := fun _ => False) hB) (fun k e => e.elim) (fun e => e) (fun e => e) (fun e => e) (fun e => e) (fun e => e)
theorem LbI.ne (q : LbI W hb sb vc T H u h id gb Bb Bn bs o W') {B t : Nat} {v : Value} (hb' : Boxed W' B t v) (ht : t ≠ 5) : B ≠ gb := by
  rintro rfl
  rcases q.row.2 with ⟨h0, _⟩ | ⟨g', cap', cur, h0, _, hgg, _⟩
  · cases h0
  · cases h0
    unfold Boxed at hb'
    rw [hgg] at hb'
    cases hb'
    exact ht rfl
theorem LbI.store (g : HLay W hb sb vc T H u h) (q : LbI W hb sb vc T H u h id gb Bb Bn bs o W') (y : Nat) (hy : bs[o]? = some y) : LbI W hb sb vc T H u h id gb Bb Bn bs (o + 1) (W'.setCell ⟨gb, o, none⟩ (.int .u8 (y : Nat))).drew := by
  show LbI W hb sb vc T H u h id gb Bb Bn bs (o + 1) (W'.drew.setCell ⟨gb, o, none⟩ (byteV y))
  obtain ⟨ho, rfl⟩ := List.getElem?_eq_some_iff.1 hy
  have hhb := g.hlt
  have hcv := g.clt
  have hst := g.tlt
  have hz := q.bel.size
  have hge := q.gge
  have n0 := q.ne q.b0 (by decide)
  have n1 := q.ne q.b1 (by decide)
  have n2 := q.ne q.bb (by decide)
  have n3 := q.ne q.bn (by decide)
  have hu : Upd (fun k => k = gb) W' (W'.drew.setCell ⟨gb, o, none⟩ (byteV bs[o])) := (Upd.refl (fun k => k = gb) W').drew.setCell (p := ⟨gb, o, none⟩) (.inl rfl) _
  have hst2 := (World.ownsRow.stored (w := W'.drew) (base := W.heap.size) q.row o (byteV bs[o])).1
  rw [← List.map_set, upTo_set bs o ho] at hst2
  exact ⟨q.lay.upd hu (fun e => by omega) (fun k e e2 => by have := hcv k e; omega) (fun k e e2 => by have := hst k e; omega), box_of (hu.block _ q.b0.lt n0) q.b0, box_of (hu.block _ q.b1.lt n1) q.b1, box_of (hu.block _ q.bb.lt n2) q.bb, box_of (hu.block _ q.bn.lt n3) q.bn, hst2, q.bel.trans (hu.below hz (fun k e => by omega))⟩
end
set_option maxRecDepth 100000 in
theorem loadBytes_c (g : HLay W hb sb vc T H u h) (id : Nat) (c : Hc) (hc : H[id]? = some (some c)) (bs : List Nat) (hbs : c.bytes = bs) (hb256 : ∀ x ∈ bs, x < 256) (hn : bs.length ≤ 8388608) :
    Calls Tryz.prog 201 #[.pointer (some ⟨hb, 0, none⟩), .int .i64 id] W fun e w' => ∃ gb, e = .returned (.slice (some ⟨gb, 0, none⟩) bs.length bs.length) ∧ W.heap.size ≤ gb ∧ Below W.heap.size W w' ∧ w'.ownsRow W.heap.size 5 1 (.slice (some ⟨gb, 0, none⟩) bs.length bs.length) bs.length (bs.map byteV) := by
  have hil := (List.getElem?_eq_some_iff.1 hc).1
  obtain ⟨nn, hnn⟩ : ∃ nn, bs.length = nn := ⟨_, rfl⟩
  rw [hnn] at hn ⊢
  have cpc := fun w => pieces_c w nn
  refine (callsIn_wide (n := 9)).1 ?_
  refine callsIn_of_wp_marks Tryz.func201 rfl trivial ?_ rfl
  refine wpIn_wide.2 ?_
  simp only [Tryz.ntmps201, List.size_toArray, List.length_cons, List.length_nil, Nat.reduceAdd, Nat.reduceSub, Array.replicate_succ, Array.replicate_zero, List.push_toArray, List.append_toArray, List.nil_append, List.cons_append]
  have b1 : Below W.heap.size W ((W.alloc (.cells #[.pointer (some ⟨hb, 0, none⟩)] 23)).alloc (.cells #[.int .i64 id] 3)) := ((Below.refl _ W).alloc (Nat.le_refl _) _).alloc (by simp) _
  have cb := bytes_c (g.below b1) id c hc
  rw [hbs, hnn] at cb
  have z2 : (((W.alloc (.cells #[.pointer (some ⟨hb, 0, none⟩)] 23)).alloc (.cells #[.int .i64 id] 3))).heap.size = W.heap.size + 2 := by simp
  have x0 : Boxed ((W.alloc (.cells #[.pointer (some ⟨hb, 0, none⟩)] 23)).alloc (.cells #[.int .i64 id] 3)) W.heap.size 23 (.pointer (some ⟨hb, 0, none⟩)) := (Boxed.new W _ _).alloc _
  have x1 : Boxed ((W.alloc (.cells #[.pointer (some ⟨hb, 0, none⟩)] 23)).alloc (.cells #[.int .i64 id] 3)) (W.heap.size + 1) 3 (.int .i64 id) := by
    have := Boxed.new (W.alloc (.cells #[.pointer (some ⟨hb, 0, none⟩)] 23)) 3 (.int .i64 id)
    rwa [World.size_alloc] at this
  have g2 := g.below b1
  go_upto_region 1 with fail
  generalize ((W.alloc (.cells #[.pointer (some ⟨hb, 0, none⟩)] 23)).alloc (.cells #[.int .i64 id] 3)) = W2 at *
  obtain ⟨Wm, hmk, hown, hgr⟩ := make_bytes W2 nn hn
  have b2 : Below W2.heap.size W2 Wm := ((Upd.refl (fun _ => False) W2).grown hgr (fun k e => by cases e)).below (Nat.le_refl _) (fun k e => e.elim)
  have y0 := x0.cell
  have y1 := x1.cell
  go_upto_region 2 with (go_at_call 136; (with_reducible refine cb.mono ?_); rintro e w' ⟨rfl, hw⟩; (have hw' := hw.symm); subst hw'; clear hw)
  have hownA := hown.alloc (.cells #[.slice (some ⟨W.heap.size + 2, 0, none⟩) nn nn] 66)
  have zm : W.heap.size + 2 < Wm.heap.size := by have : W2.heap.size < Wm.heap.size := (hown.lt W2.heap.size rfl).2; omega
  have xb : Boxed (Wm.alloc (.cells #[.slice (some ⟨W.heap.size + 2, 0, none⟩) nn nn] 66)) Wm.heap.size 66 (.slice (some ⟨W.heap.size + 2, 0, none⟩) nn nn) := Boxed.new _ _ _
  have bA : Below W2.heap.size W2 (Wm.alloc (.cells #[.slice (some ⟨W.heap.size + 2, 0, none⟩) nn nn] 66)) := b2.alloc b2.size _
  have zA : (Wm.alloc (.cells #[.slice (some ⟨W.heap.size + 2, 0, none⟩) nn nn] 66)).heap.size = Wm.heap.size + 1 := World.size_alloc ..
  generalize Wm.alloc (.cells #[.slice (some ⟨W.heap.size + 2, 0, none⟩) nn nn] 66) = WA at *
  have yb := xb.cell
  go_wp2_with (go_at_call 252; (with_reducible refine (cpc _).mono ?_); rintro e w8 ⟨rfl, hw8⟩; (have hw' := hw8.symm); subst hw'; clear hw8)
  rw [z2] at hownA
  subst hnn
  have bZ : Below W2.heap.size W2 (WA.alloc (.cells #[.int .i64 (bs.length : Nat)] 3)) := bA.alloc bA.size _
  have q0 : LbI W hb sb vc T H u h id (W.heap.size + 2) Wm.heap.size (Wm.heap.size + 1) bs 0 (WA.alloc (.cells #[.int .i64 (bs.length : Nat)] 3)) := by
    refine ⟨g2.below bZ, box_of (bZ.block _ (by omega)) x0, box_of (bZ.block _ (by omega)) x1, xb.alloc _, ?_, ?_, b1.trans (bZ.mono (by omega))⟩
    · have := Boxed.new WA 3 (.int .i64 (bs.length : Nat))
      rwa [zA] at this
    · rw [upTo_zero]
      exact owns_base (hownA.alloc _) (fun g e => by cases e; show W.heap.size ≤ W.heap.size + 2; omega)
  have zZ : (WA.alloc (.cells #[.int .i64 (bs.length : Nat)] 3)).heap.size = Wm.heap.size + 2 := by rw [World.size_alloc, zA]
  generalize WA.alloc (.cells #[.int .i64 (bs.length : Nat)] 3) = WZ at *
  refine pieces_law (p1 := 18) (p2 := 19) (W0 := WZ) (Bn := Wm.heap.size + 1) bs.length hn rfl
    (fun i W' => LbI W hb sb vc T H u h id (W.heap.size + 2) Wm.heap.size (Wm.heap.size + 1) bs (pieceO bs.length i) W')
    ?hL ?hI (by rw [piece_zero]; exact q0) 6 7 ?assign ?body ?done
  case hL =>
    intro i W' q
    exact q.bn.cell
  case hI =>
    intro i Wa Wb q hu
    exact q.upd g hu (fun k e => by omega) (by omega) (by omega) (by omega) (by omega) (by omega)
  case assign =>
    intro L x y W' K hK
    gi_wp2_with (simp only [Oper.semAt]; go_simp)
    exact hK
  case done =>
    intro W' q hD
    rw [piece_end] at q
    have yb2 := q.bb.cell
    have Q := hid q
    clear q
    go_wp2
    refine ⟨by simp, .inl ⟨_, _, rfl, run_takeDeferred hD, ?_⟩⟩
    have q9 := Q.out.upd g (upd_put (S := fun k => k = WZ.heap.size) rfl (.deferred none)) (fun k e => by omega) (by omega) (by omega) (by omega) (by omega) (by omega)
    refine ⟨_, results_tmp rfl _ _ _, W.heap.size + 2, rfl, by omega, q9.bel, ?_⟩
    have r9 := q9.row
    rwa [upTo_all] at r9
  case body =>
    intro L i hi W' hLe q hs hr
    simp only [pAct, List.setIfInBounds_toArray, List.set_cons_succ, List.set_cons_zero]
    have hp := piece_lt bs.length i hi
    have hw1 : pieceW bs.length i = 1 ∨ pieceW bs.length i = 2 ∨ pieceW bs.length i = 4 ∨ pieceW bs.length i = 8 := by unfold pieceW; split <;> simp
    have hsl := seg_len bs (pieceO bs.length i) (pieceW bs.length i) hp.1
    have cl := load_st (q.lay.same (W' := W'.drew) rfl).st id _ (hA_some hc) (pieceO bs.length i) (pieceW bs.length i) hw1 hp.2 (by rw [hbs]; exact hp.1)
    rw [hbs] at cl
    have hnx := piece_next bs.length i
    rw [hnx]
    have hge := q.gge
    have y0 := q.b0.cell
    have y1 := q.b1.cell
    have c0 := q.lay.cell 0
    simp only [List.getElem?_cons_zero] at c0
    have Q := hid q
    have HS := hid hsl
    have HP := hid hp
    have HB : Hid (∀ k, k < pieceW bs.length i → ∃ y : Nat, bs[pieceO bs.length i + k]? = some y ∧ IntKind.u8.wrap (((leN (seg bs (pieceO bs.length i) (pieceW bs.length i)) : Nat) : Int) / 2 ^ (8 * k)) = (y : Int)) := by
      show ∀ k, k < pieceW bs.length i → _
      intro k hk
      have e := byte_leN (seg bs (pieceO bs.length i) (pieceW bs.length i)) (fun x hx => hb256 x (List.mem_of_mem_drop (List.mem_of_mem_take hx))) k (by omega)
      refine ⟨(seg bs (pieceO bs.length i) (pieceW bs.length i))[k]'(by omega), ?_, ?_⟩
      · rw [← seg_get bs (pieceO bs.length i) (pieceW bs.length i) k hk]
        exact List.getElem?_eq_getElem _
      · rw [← e, show (2 : Int) ^ (8 * k) = ((256 ^ k : Nat) : Int) by rw [Int.pow_mul]; simp]
        rw [← Int.natCast_ediv, IntKind.wrap_u8]
        omega
    have hLn : L ≠ W.heap.size + 2 := by omega
    have hZn : WZ.heap.size ≠ W.heap.size + 2 := by omega
    clear q x0 x1 xb g2 q0 hr hsl hp b1 b2 bA bZ yb hgr hownA
    generalize leN (seg bs (pieceO bs.length i) (pieceW bs.length i)) = X at *
    generalize pieceO bs.length (i + 1) = oo1 at *
    generalize hoo : pieceO bs.length i = oo at *
    generalize hww : pieceW bs.length i = ww at *
    have hw8 : ww ≤ 8 := by omega
    clear hnx hoo hww hw1
    gi_wp2_with (simp only [Oper.semAt]; go_simp)
    refine round_held (S := fun w' => w'.cell? ⟨W.heap.size, 0, none⟩ = some (.pointer (some ⟨hb, 0, none⟩)) ∧ w'.cell? ⟨W.heap.size + 1, 0, none⟩ = some (.int .i64 id) ∧ w'.cell? ⟨hb, 0, none⟩ = some (.pointer (some ⟨sb, 0, none⟩))) (by kernel_rfl) (by kernel_rfl) (by rintro ⟨a, w, hF⟩; exact hF) ?_
    have hS : W'.drew.cell? ⟨W.heap.size, 0, none⟩ = some (.pointer (some ⟨hb, 0, none⟩)) ∧ W'.drew.cell? ⟨W.heap.size + 1, 0, none⟩ = some (.int .i64 id) ∧ W'.drew.cell? ⟨hb, 0, none⟩ = some (.pointer (some ⟨sb, 0, none⟩)) := ⟨y0, y1, c0⟩
    (refine wpAnyH_take (i := 0) (v := ?_) rfl (by kernel_rfl) (by kernel_rfl) (by kernel_rfl) (fun _ _ _ h => h) (Or.inl ⟨by rfl, ?_⟩) hS ?_); rotate_left; focus (intro w' hSw; obtain ⟨s1, s2, s3⟩ := hSw; go_simp; (try with_reducible rfl)); (try simp only [Act.put, List.setIfInBounds_toArray, List.set_cons_zero, List.set_cons_succ])
    (refine wpAnyH_take (i := 1) (v := ?_) rfl (by kernel_rfl) (by kernel_rfl) (by kernel_rfl) (fun _ _ _ h => h) (Or.inl ⟨by rfl, ?_⟩) hS ?_); rotate_left; focus (intro w' hSw; obtain ⟨s1, s2, s3⟩ := hSw; go_simp; (try with_reducible rfl)); (try simp only [Act.put, List.setIfInBounds_toArray, List.set_cons_zero, List.set_cons_succ])
    (refine wpAnyH_take (i := 2) (v := ?_) rfl (by kernel_rfl) (by kernel_rfl) (by kernel_rfl) (fun _ _ _ h => h) (Or.inl ⟨by rfl, ?_⟩) hS ?_); rotate_left; focus (intro w' hSw; obtain ⟨s1, s2, s3⟩ := hSw; go_simp; (try with_reducible rfl)); (try simp only [Act.put, List.setIfInBounds_toArray, List.set_cons_zero, List.set_cons_succ])
    (refine wpAnyH_take (i := 3) (v := ?_) rfl (by kernel_rfl) (by kernel_rfl) (by kernel_rfl) (fun _ _ _ h => h) (Or.inl ⟨by rfl, ?_⟩) hS ?_); rotate_left; focus (intro w' hSw; obtain ⟨s1, s2, s3⟩ := hSw; go_simp; (try with_reducible rfl)); (try simp only [Act.put, List.setIfInBounds_toArray, List.set_cons_zero, List.set_cons_succ])
    (refine wpAnyH_take (i := 4) (v := ?_) rfl (by kernel_rfl) (by kernel_rfl) (by kernel_rfl) (fun _ _ _ h => h) (Or.inl ⟨by rfl, ?_⟩) hS ?_); rotate_left; focus (intro w' hSw; obtain ⟨s1, s2, s3⟩ := hSw; go_simp; (try with_reducible rfl)); (try simp only [Act.put, List.setIfInBounds_toArray, List.set_cons_zero, List.set_cons_succ])
    (refine wpAnyH_take (i := 5) (v := ?_) rfl (by kernel_rfl) (by kernel_rfl) (by kernel_rfl) (fun _ _ _ h => h) (Or.inl ⟨by rfl, ?_⟩) hS ?_); rotate_left; focus (intro w' hSw; obtain ⟨s1, s2, s3⟩ := hSw; go_simp; (try with_reducible rfl)); (try simp only [Act.put, List.setIfInBounds_toArray, List.set_cons_zero, List.set_cons_succ])
    (refine wpAnyH_take (i := 6) (v := ?_) rfl (by kernel_rfl) (by kernel_rfl) (by kernel_rfl) (fun _ _ _ h => h) (Or.inl ⟨by rfl, ?_⟩) hS ?_); rotate_left; focus (intro w' hSw; obtain ⟨s1, s2, s3⟩ := hSw; go_simp; (try with_reducible rfl)); (try simp only [Act.put, List.setIfInBounds_toArray, List.set_cons_zero, List.set_cons_succ])
    refine wpAnyH_ready (rs := [7]) (by kernel_rfl) (by simp) ?_
    refine AllReadyH.cons rfl (fun K hK => ?_) AllReadyH.nil
    go_simp
    refine cl.mono ?_
    rintro e w2 ⟨rfl, hB2⟩
    have q2 := (Q.out.below g (w2 := w2) ⟨hB2.os, hB2.tape, hB2.output, hB2.size, hB2.block⟩)
    refine hK.out _ _ ⟨q2.b0.cell, q2.b1.cell, q2.lay.cell 0⟩ (fun hS2 => ?_)
    clear hK K hS cl
    (refine wpAnyH_take (i := 8) (v := ?_) rfl (by kernel_rfl) (by kernel_rfl) (by kernel_rfl) (fun _ _ _ h => h) (Or.inl ⟨by rfl, ?_⟩) hS2 ?_); rotate_left; focus (intro w' hSw; obtain ⟨s1, s2, s3⟩ := hSw; go_simp; (try with_reducible rfl)); (try simp only [Act.put, List.setIfInBounds_toArray, List.set_cons_zero, List.set_cons_succ])
    (refine wpAnyH_take (i := 9) (v := ?_) rfl (by kernel_rfl) (by kernel_rfl) (by kernel_rfl) (fun _ _ _ h => h) (Or.inl ⟨by rfl, ?_⟩) hS2 ?_); rotate_left; focus (intro w' hSw; obtain ⟨s1, s2, s3⟩ := hSw; go_simp; (try with_reducible rfl)); (try simp only [Act.put, List.setIfInBounds_toArray, List.set_cons_zero, List.set_cons_succ])
    (refine wpAnyH_take (i := 10) (v := ?_) rfl (by kernel_rfl) (by kernel_rfl) (by kernel_rfl) (fun _ _ _ h => h) (Or.inl ⟨by rfl, ?_⟩) hS2 ?_); rotate_left; focus (intro w' hSw; obtain ⟨s1, s2, s3⟩ := hSw; go_simp; (try with_reducible rfl)); (try simp only [Act.put, List.setIfInBounds_toArray, List.set_cons_zero, List.set_cons_succ])
    (refine wpAnyH_take (i := 11) (v := ?_) rfl (by kernel_rfl) (by kernel_rfl) (by kernel_rfl) (fun _ _ _ h => h) (Or.inl ⟨by rfl, ?_⟩) hS2 ?_); rotate_left; focus (intro w' hSw; obtain ⟨s1, s2, s3⟩ := hSw; go_simp; (try with_reducible rfl)); (try simp only [Act.put, List.setIfInBounds_toArray, List.set_cons_zero, List.set_cons_succ])
    (refine wpAnyH_take (i := 12) (v := ?_) rfl (by kernel_rfl) (by kernel_rfl) (by kernel_rfl) (fun _ _ _ h => h) (Or.inl ⟨by rfl, ?_⟩) hS2 ?_); rotate_left; focus (intro w' hSw; obtain ⟨s1, s2, s3⟩ := hSw; go_simp; (try with_reducible rfl)); (try simp only [Act.put, List.setIfInBounds_toArray, List.set_cons_zero, List.set_cons_succ])
    refine wpAnyH_done (by kernel_rfl) ?_ _
    have hU0 : Upd (fun k => k = W.heap.size + 2) W' w2 := ⟨hB2.os, hB2.tape, hB2.output, hB2.size, fun k hk _ => hB2.block k hk⟩
    have HQ2 := hid q2
    have HU0 := hid hU0
    clear hS2 q2 hB2 Q y0 y1 c0 hU0
    gi_wp2_with (simp only [Oper.semAt]; go_simp)
    gi_loopw [32] (fun ii wr => ∃ k : Nat, k ≤ ww ∧ ii = .int .i64 k ∧ LbI W hb sb vc T H u h id (W.heap.size + 2) Wm.heap.size (Wm.heap.size + 1) bs (oo + k) wr ∧ Upd (fun k => k = W.heap.size + 2) W' wr) (fun ii _ => ww - (intOf ii).toNat)
    case atStart => exact ⟨0, Nat.zero_le _, rfl, HQ2.out, HU0.out⟩
    case round =>
      obtain ⟨k, hk, rfl, qk, huk⟩ := hrel
      have w1 : IntKind.i64.wrap ((k : Int) + 1) = (k : Int) + 1 := by rw [IntKind.wrap_i64]; have := HP.out; omega
      have w8 : IntKind.i64.wrap (8 * (k : Int)) = 8 * (k : Int) := by rw [IntKind.wrap_i64]; have := HP.out; omega
      have w9 : IntKind.i64.wrap ((oo : Int) + (k : Int)) = (oo : Int) + (k : Int) := by rw [IntKind.wrap_i64]; have := HP.out; omega
      by_cases hlt : k < ww
      · obtain ⟨y, hy, hyv⟩ := HB.out k hlt
        have hst := hid (qk.store g y hy)
        have yb := qk.bb.cell
        have k1 : (k : Int) < ww := by omega
        have HUK := hid huk
        have HQK := hid qk
        clear qk huk
        gi_wp2_with (simp only [Oper.semAt]; go_simp)
        have n1 : (0 : Int) ≤ (oo : Int) + (k : Int) := by omega
        have n2 : (oo : Int) + (k : Int) < bs.length := by have := HP.out; omega
        have n3 : ((oo : Int) + (k : Int)).toNat = oo + k := by omega
        have n4 : (8 * (k : Int)).toNat = 8 * k := by omega
        have n5 : (0 : Int) ≤ 8 * (k : Int) := by omega
        have n6 : min (8 * k) 64 = 8 * k := by omega
        have hcl : ∃ z, wr.drew.cell? ⟨W.heap.size + 2, oo + k, none⟩ = some z := by
          have e := HQK.out.row.cellAt (oo + k) (by have := HP.out; omega)
          rw [List.getElem?_map, List.getElem?_eq_getElem (by rw [upTo_len _ _ (by have := HP.out; omega)]; have := HP.out; omega)] at e
          exact ⟨_, e⟩
        obtain ⟨z, hcl⟩ := hcl
        have hfz : wr.drew.frozen? ⟨W.heap.size + 2, oo + k, none⟩ = false := HQK.out.row.frozenAt (oo + k)
        refine round_held (S := fun w' => w'.cell? ⟨Wm.heap.size, 0, none⟩ = some (.slice (some ⟨W.heap.size + 2, 0, none⟩) bs.length bs.length)) (by kernel_rfl) (by kernel_rfl) (by rintro ⟨a, w, hF⟩; exact hF) ?_
        have hS : wr.drew.cell? ⟨Wm.heap.size, 0, none⟩ = some (.slice (some ⟨W.heap.size + 2, 0, none⟩) bs.length bs.length) := yb
        (refine wpAnyH_take (i := 0) (v := ?_) rfl (by kernel_rfl) (by kernel_rfl) (by kernel_rfl) (fun _ _ _ h => h) (Or.inl ⟨by rfl, ?_⟩) hS ?_); rotate_left; focus (intro w' hSw; go_simp; (try with_reducible rfl)); (try simp only [Act.put, List.setIfInBounds_toArray, List.set_cons_zero, List.set_cons_succ])
        (refine wpAnyH_take (i := 1) (v := ?_) rfl (by kernel_rfl) (by kernel_rfl) (by kernel_rfl) (fun _ _ _ h => h) (Or.inl ⟨by rfl, ?_⟩) hS ?_); rotate_left; focus (intro w' hSw; go_simp; (try with_reducible rfl)); (try simp only [Act.put, List.setIfInBounds_toArray, List.set_cons_zero, List.set_cons_succ])
        (refine wpAnyH_take (i := 2) (v := ?_) rfl (by kernel_rfl) (by kernel_rfl) (by kernel_rfl) (fun _ _ _ h => h) (Or.inl ⟨by rfl, ?_⟩) hS ?_); rotate_left; focus (intro w' hSw; go_simp; (try with_reducible rfl)); (try simp only [Act.put, List.setIfInBounds_toArray, List.set_cons_zero, List.set_cons_succ])
        (refine wpAnyH_take (i := 3) (v := ?_) rfl (by kernel_rfl) (by kernel_rfl) (by kernel_rfl) (fun _ _ _ h => h) (Or.inl ⟨by rfl, ?_⟩) hS ?_); rotate_left; focus (intro w' hSw; go_simp; (try with_reducible rfl)); (try simp only [Act.put, List.setIfInBounds_toArray, List.set_cons_zero, List.set_cons_succ])
        (refine wpAnyH_take (i := 4) (v := ?_) rfl (by kernel_rfl) (by kernel_rfl) (by kernel_rfl) (fun _ _ _ h => h) (Or.inl ⟨by rfl, ?_⟩) hS ?_); rotate_left; focus (intro w' hSw; go_simp; (try with_reducible rfl)); (try simp only [Act.put, List.setIfInBounds_toArray, List.set_cons_zero, List.set_cons_succ])
        (refine wpAnyH_take (i := 5) (v := ?_) rfl (by kernel_rfl) (by kernel_rfl) (by kernel_rfl) (fun _ _ _ h => h) (Or.inl ⟨by rfl, ?_⟩) hS ?_); rotate_left; focus (intro w' hSw; go_simp; (try with_reducible rfl)); (try simp only [Act.put, List.setIfInBounds_toArray, List.set_cons_zero, List.set_cons_succ])
        (refine wpAnyH_take (i := 6) (v := ?_) rfl (by kernel_rfl) (by kernel_rfl) (by kernel_rfl) (fun _ _ _ h => h) (Or.inl ⟨by rfl, ?_⟩) hS ?_); rotate_left; focus (intro w' hSw; go_simp; (try with_reducible rfl)); (try simp only [Act.put, List.setIfInBounds_toArray, List.set_cons_zero, List.set_cons_succ])
        (refine wpAnyH_take (i := 7) (v := ?_) rfl (by kernel_rfl) (by kernel_rfl) (by kernel_rfl) (fun _ _ _ h => h) (Or.inl ⟨by rfl, ?_⟩) hS ?_); rotate_left; focus (intro w' hSw; go_simp; (try with_reducible rfl)); (try simp only [Act.put, List.setIfInBounds_toArray, List.set_cons_zero, List.set_cons_succ])
        (refine wpAnyH_take (i := 8) (v := ?_) rfl (by kernel_rfl) (by kernel_rfl) (by kernel_rfl) (fun _ _ _ h => h) (Or.inl ⟨by rfl, ?_⟩) hS ?_); rotate_left; focus (intro w' hSw; go_simp; (try with_reducible rfl)); (try simp only [Act.put, List.setIfInBounds_toArray, List.set_cons_zero, List.set_cons_succ])
        (refine wpAnyH_take (i := 9) (v := ?_) rfl (by kernel_rfl) (by kernel_rfl) (by kernel_rfl) (fun _ _ _ h => h) (Or.inl ⟨by rfl, ?_⟩) hS ?_); rotate_left; focus (intro w' hSw; go_simp; (try with_reducible rfl)); (try simp only [Act.put, List.setIfInBounds_toArray, List.set_cons_zero, List.set_cons_succ])
        refine wpAnyH_ready (rs := [10]) (by kernel_rfl) (by simp) ?_
        refine AllReadyH.cons rfl (fun K hK => ?_) AllReadyH.nil
        go_simp
        refine hK.out _ _ (hst.out.bb.cell) (fun hS2 => ?_)
        clear hK K hS
        refine wpAnyH_done (by kernel_rfl) ?_ _
        have HU2 := hid (HUK.out.setCell (p := ⟨W.heap.size + 2, oo + k, none⟩) (.inl rfl) (.int .u8 (y : Nat))).drew
        clear hS2 hcl hfz yb
        gi_wp2_with (simp only [Oper.semAt]; go_simp)
        go_roundw
        case rel => exact ⟨k + 1, hlt, by go_num, by rw [← Nat.add_assoc]; exact hst.out, HU2.out⟩
        case measure => show ww - (k + 1 : Int).toNat < ww - (k : Int).toNat; omega
      · have he : k = ww := by omega
        have k1 : ¬ (k : Int) < ww := by omega
        rw [he] at qk
        have HQK := hid qk
        have HUK := hid huk
        clear qk huk he
        gi_wp2_with (simp only [Oper.semAt]; go_simp)
        exact ⟨⟨HUK.out.block _ (by omega) (by omega), HUK.out.block _ (by omega) (by omega)⟩, HQK.out⟩
end
end Go.Proofs.YtgmimmdojkoppaaGreatDoor.W
