import Derived.Test.YtenpopelbmeemaaGreatBase15
import Derived.Test.YtenpopelbmeemaaGreatBase16
import Derived.Test.YtenpopelbmeemaaGreatBase20
import Derived.Lib.ConvBytes
import Derived.Laws.ResultCell
import Derived.Laws.IdiomStrings
/- Package heap: right, of strings. -/
namespace Go.Proofs.YtenpopelbmeemaaGreat.W
open Go.ChangeShapes Go.WideShapes Go.RowKit Go.Shelf
set_option linter.unusedVariables false
end Go.Proofs.YtenpopelbmeemaaGreat.W
/- Package heap: save and Put, of a string. -/
namespace Go.Proofs.YtenpopelbmeemaaGreat.W
open Go.ChangeShapes Go.WideShapes Go.RowKit Go.Shelf
set_option linter.unusedVariables false
section
variable {W W' : World} {hb sb : Nat} {vc : Value} {T : Nat → Prop} {H : List (Option Hc)} {u h : Nat}
/-- the bytes of a string -/
def strB (t : ByteArray) : List Nat := t.data.toList.map UInt8.toNat
end
end Go.Proofs.YtenpopelbmeemaaGreat.W
/- Package heap: Get. -/
namespace Go.Proofs.YtenpopelbmeemaaGreat.W
open Go.ChangeShapes Go.WideShapes Go.RowKit Go.Shelf
set_option linter.unusedVariables false
section
variable {W W' : World} {hb sb : Nat} {vc : Value} {T : Nat → Prop} {H : List (Option Hc)} {u h : Nat}
theorem cell_ret2 {fn : Func} {p q : Tmp} (h : fn.results = #[.cell p 43, .tmp q]) (tmps : Array Value) (w : World) (gb : Nat) (v0 v1 v2 v3 v4 v5 v6 v7 v8 : Value) (fr : Nat × Nat) (hp : tmps.getD p undef = .pointer (some ⟨gb, 0, none⟩)) (hg : w.heap[gb]? = some (.cells #[v0, v1, v2, v3, v4, v5, v6, v7, v8] 43 fr)) : (results fn tmps).run Tryz.prog w = .ok (.tuple #[.agg #[v0, v1, v2, v3, v4, v5, v6, v7, v8], tmps.getD q undef]) w := by
  have ht := cellT
  rw [results_cell_tmp h, hp]
  cases hu : Tryz.prog.underlying 43 with
  | none => rw [hu] at ht; cases ht
  | some d =>
    rw [hu] at ht
    simp only [Option.map_some, Option.some.injEq] at ht
    have hl := run_loadVar_row (P := Tryz.prog) w gb 43 43 #[v0, v1, v2, v3, v4, v5, v6, v7, v8] fr d hg hu (by cases d <;> first | rfl | exact ht) (by rw [cellSz]; rfl)
    simp [asAddr, hl]
theorem get_c (g : HLay W hb sb vc T H u h) (w : Nat) (hw : w < 18446744073709551616) (id : Nat) (hi : hit H w = some id) (kd : Int) (vw : Bool) (i : Int) (t : ByteArray) (ob ow : Option Addr) (bl bc wl wc : Nat) (ba fr ln : Int) (hld : ∀ w1, Below W.heap.size W w1 → Calls Tryz.prog 41 #[.pointer (some ⟨hb, 0, none⟩), .int .i64 id] w1 fun e w' => e = .returned (.agg #[.int .i64 kd, .bool vw, .int .i64 i, .string t, .slice ob bl bc, .slice ow wl wc, .int .u64 ba, .int .i64 fr, .int .i64 ln]) ∧ Below w1.heap.size w1 w') :
    Calls Tryz.prog 16 #[.pointer (some ⟨hb, 0, none⟩), .int .u64 w] W fun e w' => e = .returned (.tuple #[.agg #[.int .i64 kd, .bool vw, .int .i64 i, .string t, .slice ob bl bc, .slice ow wl wc, .int .u64 ba, .int .i64 fr, .int .i64 ln], .int .i64 0]) ∧ Below W.heap.size W w' := by
  have hB1 : Below W.heap.size W (W.alloc (.cells #[.int .i64 0, .bool false, .int .i64 0, .string ⟨#[]⟩, .slice none 0 0, .slice none 0 0, .int .u64 0, .int .i64 0, .int .i64 0] 43)) := (Below.refl _ W).alloc (Nat.le_refl _) _
  have hs1 : (W.alloc (.cells #[.int .i64 0, .bool false, .int .i64 0, .string ⟨#[]⟩, .slice none 0 0, .slice none 0 0, .int .u64 0, .int .i64 0, .int .i64 0] 43)).heap.size = W.heap.size + 1 := World.size_alloc ..
  have f1 := World.alloc_heap_new W (.cells #[.int .i64 0, .bool false, .int .i64 0, .string ⟨#[]⟩, .slice none 0 0, .slice none 0 0, .int .u64 0, .int .i64 0, .int .i64 0] 43)
  have cf := find_c (g.below hB1) w hw
  rw [hi] at cf
  simp only [Option.getD_some, Option.isSome_some] at cf
  have cl := hld _ hB1
  have kp : Hid (∀ w4, Below (W.alloc (.cells #[.int .i64 0, .bool false, .int .i64 0, .string ⟨#[]⟩, .slice none 0 0, .slice none 0 0, .int .u64 0, .int .i64 0, .int .i64 0] 43)).heap.size (W.alloc (.cells #[.int .i64 0, .bool false, .int .i64 0, .string ⟨#[]⟩, .slice none 0 0, .slice none 0 0, .int .u64 0, .int .i64 0, .int .i64 0] 43)) w4 → w4.heap[W.heap.size]? = some (.cells #[.int .i64 0, .bool false, .int .i64 0, .string ⟨#[]⟩, .slice none 0 0, .slice none 0 0, .int .u64 0, .int .i64 0, .int .i64 0] 43) ∧ Below W.heap.size W w4) := by
    show ∀ w4, _
    intro w4 hB4
    exact ⟨(hB4.block _ (by omega)).trans f1, hB1.trans (hB4.mono hB1.size)⟩
  clear hld
  go_enter Tryz.func16, Tryz.ntmps16
  go_upto_region 1 with fail
  generalize W.alloc (.cells #[.int .i64 0, .bool false, .int .i64 0, .string ⟨#[]⟩, .slice none 0 0, .slice none 0 0, .int .u64 0, .int .i64 0, .int .i64 0] 43) = W1 at *
  go_wp2_with (first | (go_at_call 40; (with_reducible refine cf.mono ?_); rintro e w' ⟨rfl, hw⟩; (have hw' := hw.symm); subst hw'; clear hw cf) | (go_at_call 41; (with_reducible refine cl.mono ?_); rintro e w4 ⟨rfl, hB4⟩; clear cl; (obtain ⟨fR, hBf⟩ := kp.out w4 hB4); (have eR := fun j => cell_of_row w4 W.heap.size j _ _ _ fR); (have zR := (fun j => by simp [World.frozen?, fR] : ∀ j, w4.frozen? ⟨W.heap.size, j, none⟩ = false)); (have FR := hid fR); clear fR))
  refine bodyPost_ret (cell_ret2 rfl _ _ W.heap.size _ _ _ _ _ _ _ _ _ (0, 0) rfl (nine_set FR.out _ _ _ _ _ _ _ _ _)) rfl ?_
  exact ⟨rfl, nine_below hBf (Nat.le_refl _) _ _ _ _ _ _ _ _ _⟩
theorem get_num (g : HLay W hb sb vc T H u h) (w : Nat) (hw : w < 18446744073709551616) (id : Nat) (hi : hit H w = some id) (i : Int) (hc : H[id]? = some (some (.num i))) :
    Calls Tryz.prog 16 #[.pointer (some ⟨hb, 0, none⟩), .int .u64 w] W fun e w' => e = .returned (.tuple #[.agg #[.int .i64 2, .bool false, .int .i64 i, .string ByteArray.empty, .slice none 0 0, .slice none 0 0, .int .u64 0, .int .i64 0, .int .i64 0], .int .i64 0]) ∧ Below W.heap.size W w' :=
  get_c g w hw id hi 2 false i ByteArray.empty none none 0 0 0 0 0 0 0 (fun w1 hB => load_num (g.below hB) id i hc)
end
end Go.Proofs.YtenpopelbmeemaaGreat.W
/- Package heap: load and Get, of a string. -/
namespace Go.Proofs.YtenpopelbmeemaaGreat.W
open Go.ChangeShapes Go.WideShapes Go.RowKit Go.Shelf
set_option linter.unusedVariables false
section
variable {W W' : World} {hb sb : Nat} {vc : Value} {T : Nat → Prop} {H : List (Option Hc)} {u h : Nat}
end
end Go.Proofs.YtenpopelbmeemaaGreat.W
/- Package heap: load and Get, of a buffer and of a view. -/
namespace Go.Proofs.YtenpopelbmeemaaGreat.W
open Go.ChangeShapes Go.WideShapes Go.RowKit Go.Shelf
set_option linter.unusedVariables false
theorem nine_far (w : World) (gb : Nat) (v0 v1 v2 v3 v4 v5 v6 v7 v8 : Value) (k : Nat) (h : k ≠ gb) : (((((((((w.setCell ⟨gb, 0, none⟩ v0).setCell ⟨gb, 1, none⟩ v1).setCell ⟨gb, 2, none⟩ v2).setCell ⟨gb, 3, none⟩ v3).setCell ⟨gb, 4, none⟩ v4).setCell ⟨gb, 5, none⟩ v5).setCell ⟨gb, 6, none⟩ v6).setCell ⟨gb, 7, none⟩ v7).setCell ⟨gb, 8, none⟩ v8).heap[k]? = w.heap[k]? := by
  rw [Below.heap_setCell _ _ _ _ h, Below.heap_setCell _ _ _ _ h, Below.heap_setCell _ _ _ _ h, Below.heap_setCell _ _ _ _ h, Below.heap_setCell _ _ _ _ h, Below.heap_setCell _ _ _ _ h, Below.heap_setCell _ _ _ _ h, Below.heap_setCell _ _ _ _ h, Below.heap_setCell _ _ _ _ h]
section
variable {W W' : World} {hb sb : Nat} {vc : Value} {T : Nat → Prop} {H : List (Option Hc)} {u h : Nat}
set_option maxHeartbeats 1000000 in
theorem load_view (g : HLay W hb sb vc T H u h) (id : Nat) (k : Int) (ba p n : Nat) (hc : H[id]? = some (some (.view k ba p n))) :
    Calls Tryz.prog 41 #[.pointer (some ⟨hb, 0, none⟩), .int .i64 id] W fun e w' => e = .returned (.agg #[.int .i64 k, .bool true, .int .i64 0, .string ⟨#[]⟩, .slice none 0 0, .slice none 0 0, .int .u64 ba, .int .i64 p, .int .i64 n]) ∧ Below W.heap.size W w' := by
  have hidl : id < H.length := (List.getElem?_eq_some_iff.1 hc).1
  obtain ⟨b, cap, hvc, hcell, _⟩ := g.at hidl
  have c1 := g.cell 1
  simp only [List.getElem?_cons_succ, List.getElem?_cons_zero] at c1
  rw [hvc] at c1
  have k0 := hcell 0 _ hc (by omega)
  have k1 := hcell 1 _ hc (by omega)
  have k2 := hcell 2 _ hc (by omega)
  have k3 := hcell 3 _ hc (by omega)
  have k4 := hcell 4 _ hc (by omega)
  simp only [clO, Hc.cl, Cl.cells, List.getElem?_cons_succ, List.getElem?_cons_zero, Nat.add_zero] at k0 k1 k2 k3 k4
  have j0 : (0 : Int) ≤ id := by omega
  have j1 : (id : Int) < H.length := by omega
  have ho := g.ok id _ hc
  have hk : elB k > 0 := ho.1
  have cs : ∀ w, Calls Tryz.prog 70 #[.int .i64 k, .bool true] w fun e w' => e = .returned (.int .i64 4) ∧ w' = w := fun w => shape_view k hk w
  clear hcell
  have hB1 : Below W.heap.size W (W.alloc (.cells #[.int .i64 0, .bool false, .int .i64 0, .string ⟨#[]⟩, .slice none 0 0, .slice none 0 0, .int .u64 0, .int .i64 0, .int .i64 0] 43)) := (Below.refl _ W).alloc (Nat.le_refl _) _
  have hs1 : (W.alloc (.cells #[.int .i64 0, .bool false, .int .i64 0, .string ⟨#[]⟩, .slice none 0 0, .slice none 0 0, .int .u64 0, .int .i64 0, .int .i64 0] 43)).heap.size = W.heap.size + 1 := World.size_alloc ..
  have e1 := World.cell?_alloc_new W #[.int .i64 0, .bool false, .int .i64 0, .string ⟨#[]⟩, .slice none 0 0, .slice none 0 0, .int .u64 0, .int .i64 0, .int .i64 0] 43
  have f1 := World.alloc_heap_new W (.cells #[.int .i64 0, .bool false, .int .i64 0, .string ⟨#[]⟩, .slice none 0 0, .slice none 0 0, .int .u64 0, .int .i64 0, .int .i64 0] 43)
  go_enter Tryz.func41, Tryz.ntmps41
  go_upto_region 1 with fail
  have c1' := below_cell hB1 c1
  have k0' := below_cell hB1 k0
  have k1' := below_cell hB1 k1
  have k2' := below_cell hB1 k2
  have k3' := below_cell hB1 k3
  have k4' := below_cell hB1 k4
  generalize hW1 : W.alloc (.cells #[.int .i64 0, .bool false, .int .i64 0, .string ⟨#[]⟩, .slice none 0 0, .slice none 0 0, .int .u64 0, .int .i64 0, .int .i64 0] 43) = W1 at *
  clear c1 k0 k1 k2 k3 k4 hW1
  go_upto_region 2 with fail
  have hBc : Below W1.heap.size W1 (W1.alloc (.cells #[.int .i64 k, .bool true, .int .u64 ba, .int .i64 p, .int .i64 n] 116)) := (Below.refl _ W1).alloc (Nat.le_refl _) _
  have fC := World.alloc_heap_new W1 (.cells #[.int .i64 k, .bool true, .int .u64 ba, .int .i64 p, .int .i64 n] 116)
  rw [hs1] at fC
  have hsc : (W1.alloc (.cells #[.int .i64 k, .bool true, .int .u64 ba, .int .i64 p, .int .i64 n] 116)).heap.size = W.heap.size + 2 := by rw [World.size_alloc, hs1]
  generalize World.alloc W1 _ = Wc at *
  have eC := fun j => cell_of_row Wc (W.heap.size + 1) j _ _ _ fC
  go_upto_region 3 with (go_at_call 69; (with_reducible refine (bare_c k true ba p n _).mono ?_); rintro e wb ⟨rfl, hBb⟩)
  have hbz := hBb.size
  have fO := World.alloc_heap_new wb (.cells #[.int .i64 k, .bool true, .int .i64 0, .string ⟨#[]⟩, .slice none 0 0, .slice none 0 0, .int .u64 ba, .int .i64 p, .int .i64 n] 43)
  have hBd : Below wb.heap.size wb (wb.alloc (.cells #[.int .i64 k, .bool true, .int .i64 0, .string ⟨#[]⟩, .slice none 0 0, .slice none 0 0, .int .u64 ba, .int .i64 p, .int .i64 n] 43)) := (Below.refl _ wb).alloc (Nat.le_refl _) _
  have hB3 : Below W1.heap.size W1 (wb.alloc (.cells #[.int .i64 k, .bool true, .int .i64 0, .string ⟨#[]⟩, .slice none 0 0, .slice none 0 0, .int .u64 ba, .int .i64 p, .int .i64 n] 43)) := (hBc.trans (hBb.mono (by omega))).trans (hBd.mono (by omega))
  have fC3 := (hBd.block (W.heap.size + 1) (by omega)).trans ((hBb.block (W.heap.size + 1) (by omega)).trans fC)
  obtain ⟨nb, hnb⟩ : ∃ nb, wb.heap.size = nb := ⟨_, rfl⟩
  rw [hnb] at fO
  rw [hnb]
  have hO2 : W.heap.size + 2 ≤ nb := by omega
  clear hnb hBd hBb hBc fC eC hsc hbz
  generalize World.alloc wb _ = W3 at *
  have eO := fun j => cell_of_row W3 nb j _ _ _ fO
  have eC3 := fun j => cell_of_row W3 (W.heap.size + 1) j _ _ _ fC3
  have hs3 := (Array.getElem?_eq_some_iff.1 fO).1
  have hs2 := hs3
  clear fC3
  have eR3 : ∀ j, W3.cell? ⟨W.heap.size, j, none⟩ = #[.int .i64 0, .bool false, .int .i64 0, .string ⟨#[]⟩, .slice none 0 0, .slice none 0 0, .int .u64 0, .int .i64 0, .int .i64 0][j]? := by
    intro j
    rw [World.cell?_of_block (hB3.block W.heap.size (by omega))]
    exact e1 j
  have hBW : Below W.heap.size W W3 := hB1.trans (hB3.mono hB1.size)
  have g3 := g.below hBW
  have fR : W3.heap[W.heap.size]? = some (.cells #[.int .i64 0, .bool false, .int .i64 0, .string ⟨#[]⟩, .slice none 0 0, .slice none 0 0, .int .u64 0, .int .i64 0, .int .i64 0] 43) := (hB3.block W.heap.size (by omega)).trans f1
  have HBW := hid hBW
  have eR := fun j => cell_of_row W3 W.heap.size j _ _ _ fR
  have zR : ∀ j, W3.frozen? ⟨W.heap.size, j, none⟩ = false := fun j => by simp [World.frozen?, fR]
  have FR := hid fR
  clear fO eR3 fR g3 e1 c1' k0' k1' k2' k3' k4' f1 g ho hc hBW hB1 hB3 hs1 hs2 hs3 j0 j1 hk
  go_wp2_with (go_at_call 70; (with_reducible refine (cs _).mono ?_); rintro e w' ⟨rfl, hw⟩; (have hw' := hw.symm); subst hw'; clear hw)
  refine bodyPost_ret (cell_ret rfl _ _ W.heap.size _ _ _ _ _ _ _ _ _ (0, 0) rfl (nine_set FR.out _ _ _ _ _ _ _ _ _)) rfl ?_
  exact ⟨rfl, nine_below HBW.out (Nat.le_refl _) _ _ _ _ _ _ _ _ _⟩
theorem get_view (g : HLay W hb sb vc T H u h) (w : Nat) (hw : w < 18446744073709551616) (id : Nat) (hi : hit H w = some id) (k : Int) (ba p n : Nat) (hc : H[id]? = some (some (.view k ba p n))) :
    Calls Tryz.prog 16 #[.pointer (some ⟨hb, 0, none⟩), .int .u64 w] W fun e w' => e = .returned (.tuple #[.agg #[.int .i64 k, .bool true, .int .i64 0, .string ⟨#[]⟩, .slice none 0 0, .slice none 0 0, .int .u64 ba, .int .i64 p, .int .i64 n], .int .i64 0]) ∧ Below W.heap.size W w' :=
  get_c g w hw id hi k true 0 ⟨#[]⟩ none none 0 0 0 0 ba p n (fun w1 hB => load_view (g.below hB) id k ba p n hc)
end
end Go.Proofs.YtenpopelbmeemaaGreat.W
