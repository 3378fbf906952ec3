import Derived.Test.YtikgicepdalfpaaGreatBase7
import Derived.Laws.IdiomStrings
import Derived.BigQuiet
import Derived.Test.YtikgicepdalfpaaGreatBase6
import Derived.Test.YtikgicepdalfpaaGreatBase5
import Derived.OwnWalk
import Derived.Laws.Strings
import Derived.Test.YtikgicepdalfpaaGreatBase4
import Derived.Test.YtikgicepdalfpaaGreatBase0
/- Package heap: load and Get, of a string. -/
namespace Go.Proofs.YtikgicepdalfpaaGreat.W
open Go.ChangeShapes Go.WideShapes Go.RowKit Go.Shelf
set_option linter.unusedVariables false
theorem conv_back (w : World) (gb : Nat) (t : ByteArray) (B : Nat) (h : w.ownsRow B 5 1 (.slice (some ⟨gb, 0, none⟩) t.size t.size) t.size ((strB t).map byteV)) : (convert 48 9 (.slice (some ⟨gb, 0, none⟩) t.size t.size)).run Tryz.prog w = .ok (.string t) w := by
  have hl : t.data.toList.length = t.size := by rw [Array.length_toList]; rfl
  have := run_convert_bytes_back (P := Tryz.prog) w 48 9 5 ⟨gb, 0, none⟩ t.size t.data.toList Tryz.underlying48 Tryz.underlying5 Tryz.underlying9 (fun j hj => ?_)
  · rw [hl] at this
    simpa using this
  · have e := h.cells (g := gb) rfl j (byteV (t.data.toList[j]).toNat) ?_
    · exact e
    · unfold strB
      rw [List.getElem?_map, List.getElem?_map, List.getElem?_eq_getElem hj]; rfl
section
variable {W W' : World} {hb sb : Nat} {vc : Value} {T : Nat → Prop} {H : List (Option Hc)} {u h : Nat}
set_option maxHeartbeats 1000000 in
theorem load_text (g : HLay W hb sb vc T H u h) (id : Nat) (t : ByteArray) (hc : H[id]? = some (some (.text (strB t)))) :
    Calls Tryz.prog 76 #[.pointer (some ⟨hb, 0, none⟩), .int .i64 id] W fun e w' => e = .returned (.agg #[.int .i64 4, .bool false, .int .i64 0, .string t, .slice none 0 0, .slice none 0 0, .int .u64 0, .int .i64 0, .int .i64 0]) ∧ Below W.heap.size W w' := by
  have hidl : id < H.length := (List.getElem?_eq_some_iff.1 hc).1
  obtain ⟨b, cap, hvc, hcell, _⟩ := g.at hidl
  have c1 := g.cell 1
  simp only [List.getElem?_cons_succ, List.getElem?_cons_zero] at c1
  rw [hvc] at c1
  have k0 := hcell 0 _ hc (by omega)
  have k1 := hcell 1 _ hc (by omega)
  have k2 := hcell 2 _ hc (by omega)
  have k3 := hcell 3 _ hc (by omega)
  have k4 := hcell 4 _ hc (by omega)
  simp only [clO, Hc.cl, Cl.cells, List.getElem?_cons_succ, List.getElem?_cons_zero, Nat.add_zero] at k0 k1 k2 k3 k4
  have j0 : (0 : Int) ≤ id := by omega
  have j1 : (id : Int) < H.length := by omega
  have cs : ∀ w, Calls Tryz.prog 59 #[.int .i64 4, .bool false] w fun e w' => e = .returned (.int .i64 2) ∧ w' = w := fun w => shape_c 4 false w
  clear hcell
  have hB1 : Below W.heap.size W (W.alloc (.cells #[.int .i64 0, .bool false, .int .i64 0, .string ⟨#[]⟩, .slice none 0 0, .slice none 0 0, .int .u64 0, .int .i64 0, .int .i64 0] 50)) := (Below.refl _ W).alloc (Nat.le_refl _) _
  have hs1 : (W.alloc (.cells #[.int .i64 0, .bool false, .int .i64 0, .string ⟨#[]⟩, .slice none 0 0, .slice none 0 0, .int .u64 0, .int .i64 0, .int .i64 0] 50)).heap.size = W.heap.size + 1 := World.size_alloc ..
  have e1 := World.cell?_alloc_new W #[.int .i64 0, .bool false, .int .i64 0, .string ⟨#[]⟩, .slice none 0 0, .slice none 0 0, .int .u64 0, .int .i64 0, .int .i64 0] 50
  have f1 := World.alloc_heap_new W (.cells #[.int .i64 0, .bool false, .int .i64 0, .string ⟨#[]⟩, .slice none 0 0, .slice none 0 0, .int .u64 0, .int .i64 0, .int .i64 0] 50)
  go_enter Tryz.func76, Tryz.ntmps76
  go_upto_region 1 with fail
  have c1' := below_cell hB1 c1
  have k0' := below_cell hB1 k0
  have k1' := below_cell hB1 k1
  have k2' := below_cell hB1 k2
  have k3' := below_cell hB1 k3
  have k4' := below_cell hB1 k4
  generalize hW1 : W.alloc (.cells #[.int .i64 0, .bool false, .int .i64 0, .string ⟨#[]⟩, .slice none 0 0, .slice none 0 0, .int .u64 0, .int .i64 0, .int .i64 0] 50) = W1 at *
  clear c1 k0 k1 k2 k3 k4 hW1
  go_upto_region 3 with fail
  have hB3 : Below W1.heap.size W1 ((W1.alloc (.cells #[.int .i64 4, .bool false, .int .u64 0, .int .i64 0, .int .i64 0] 105)).alloc (.cells #[.int .i64 4, .bool false, .int .i64 0, .string ⟨#[]⟩, .slice none 0 0, .slice none 0 0, .int .u64 0, .int .i64 0, .int .i64 0] 50)) := ((Below.refl _ W1).alloc (Nat.le_refl _) _).alloc (by rw [World.size_alloc]; omega) _
  have hs2 : (W1.alloc (.cells #[.int .i64 4, .bool false, .int .u64 0, .int .i64 0, .int .i64 0] 105)).heap.size = W.heap.size + 2 := by rw [World.size_alloc, hs1]
  have hs3 : ((W1.alloc (.cells #[.int .i64 4, .bool false, .int .u64 0, .int .i64 0, .int .i64 0] 105)).alloc (.cells #[.int .i64 4, .bool false, .int .i64 0, .string ⟨#[]⟩, .slice none 0 0, .slice none 0 0, .int .u64 0, .int .i64 0, .int .i64 0] 50)).heap.size = W.heap.size + 3 := by rw [World.size_alloc, hs2]
  have eO := World.cell?_alloc_new (W1.alloc (.cells #[.int .i64 4, .bool false, .int .u64 0, .int .i64 0, .int .i64 0] 105)) #[.int .i64 4, .bool false, .int .i64 0, .string ⟨#[]⟩, .slice none 0 0, .slice none 0 0, .int .u64 0, .int .i64 0, .int .i64 0] 50
  have eC := World.cell?_alloc_new W1 #[.int .i64 4, .bool false, .int .u64 0, .int .i64 0, .int .i64 0] 105
  have eC3 : ∀ j, ((W1.alloc (.cells #[.int .i64 4, .bool false, .int .u64 0, .int .i64 0, .int .i64 0] 105)).alloc (.cells #[.int .i64 4, .bool false, .int .i64 0, .string ⟨#[]⟩, .slice none 0 0, .slice none 0 0, .int .u64 0, .int .i64 0, .int .i64 0] 50)).cell? ⟨W.heap.size + 1, j, none⟩ = #[Value.int .i64 4, .bool false, .int .u64 0, .int .i64 0, .int .i64 0][j]? := by
    intro j
    rw [← hs1, ← eC j]
    exact World.cell?_of_block (Below.heap_alloc _ _ _ (by show W1.heap.size < _; rw [World.size_alloc]; omega))
  have fO := World.alloc_heap_new (W1.alloc (.cells #[.int .i64 4, .bool false, .int .u64 0, .int .i64 0, .int .i64 0] 105)) (.cells #[.int .i64 4, .bool false, .int .i64 0, .string ⟨#[]⟩, .slice none 0 0, .slice none 0 0, .int .u64 0, .int .i64 0, .int .i64 0] 50)
  rw [hs2, show W.heap.size + 2 = W.heap.size + 1 + 1 from rfl] at eO fO
  generalize (W1.alloc (.cells #[.int .i64 4, .bool false, .int .u64 0, .int .i64 0, .int .i64 0] 105)).alloc (.cells #[.int .i64 4, .bool false, .int .i64 0, .string ⟨#[]⟩, .slice none 0 0, .slice none 0 0, .int .u64 0, .int .i64 0, .int .i64 0] 50) = W3 at *
  have eR3 : ∀ j, W3.cell? ⟨W.heap.size, j, none⟩ = #[.int .i64 0, .bool false, .int .i64 0, .string ⟨#[]⟩, .slice none 0 0, .slice none 0 0, .int .u64 0, .int .i64 0, .int .i64 0][j]? := by
    intro j
    rw [World.cell?_of_block (hB3.block W.heap.size (by omega))]
    exact e1 j
  have hBW : Below W.heap.size W W3 := hB1.trans (hB3.mono hB1.size)
  have g3 := g.below hBW
  have fR : W3.heap[W.heap.size]? = some (.cells #[.int .i64 0, .bool false, .int .i64 0, .string ⟨#[]⟩, .slice none 0 0, .slice none 0 0, .int .u64 0, .int .i64 0, .int .i64 0] 50) := (hB3.block W.heap.size (by omega)).trans f1
  have c0 := g3.cell 0
  simp only [List.getElem?_cons_zero] at c0
  have ho := g.ok id _ hc
  have cl := loadBytes_c g3 id _ hc (strB t) rfl ho.1 (by have := ho.2; exact this)
  rw [strB_len] at cl
  have kp : Hid (∀ w4, Below W3.heap.size W3 w4 → w4.heap[W.heap.size]? = some (.cells #[.int .i64 0, .bool false, .int .i64 0, .string ⟨#[]⟩, .slice none 0 0, .slice none 0 0, .int .u64 0, .int .i64 0, .int .i64 0] 50) ∧ w4.heap[W.heap.size + 1 + 1]? = some (.cells #[.int .i64 4, .bool false, .int .i64 0, .string ⟨#[]⟩, .slice none 0 0, .slice none 0 0, .int .u64 0, .int .i64 0, .int .i64 0] 50)) := by
    show ∀ w4, _
    intro w4 hB4
    exact ⟨(hB4.block _ (by omega)).trans fR, (hB4.block _ (by omega)).trans fO⟩
  clear eR3 fR fO g3 e1 c1' k0' k1' k2' k3' k4' f1
  go_upto_region 8 with (go_at_call 59; (with_reducible refine (cs _).mono ?_); rintro e w' ⟨rfl, hw⟩; (have hw' := hw.symm); subst hw'; clear hw)
  have HBW := hid hBW
  clear g ho hc hBW hB1 hB3 hs1 hs2 hs3 j0 j1
  go_wp2_with (go_at_call 118; (with_reducible refine cl.mono ?_); rintro e w4 ⟨gb, rfl, hgb, hB4, hown⟩; clear cl; (have hcv := conv_back w4 gb t _ hown); (obtain ⟨fR, fO⟩ := kp.out w4 hB4); (have eR := fun j => cell_of_row w4 W.heap.size j _ _ _ fR); (have eO := fun j => cell_of_row w4 (W.heap.size + 1 + 1) j _ _ _ fO); (have zR := (fun j => by simp [World.frozen?, fR] : ∀ j, w4.frozen? ⟨W.heap.size, j, none⟩ = false)); (have zO := (fun j => by simp [World.frozen?, fO] : ∀ j, w4.frozen? ⟨W.heap.size + 1 + 1, j, none⟩ = false)); (have FR := hid fR); (have HB4 := hid hB4); clear fR fO hB4 hown hgb)
  have hBf : Below W.heap.size W w4 := HBW.out.trans (HB4.out.mono HBW.out.size)
  refine bodyPost_ret (cell_ret rfl _ _ W.heap.size _ _ _ _ _ _ _ _ _ (0, 0) rfl (nine_set ((Below.heap_setCell _ _ _ _ (by show W.heap.size ≠ W.heap.size + 1 + 1; omega)).trans FR.out) _ _ _ _ _ _ _ _ _)) rfl ?_
  exact ⟨rfl, nine_below (hBf.setCell (p := ⟨W.heap.size + 1 + 1, 3, none⟩) (by show W.heap.size ≤ W.heap.size + 1 + 1; omega) _) (Nat.le_refl _) _ _ _ _ _ _ _ _ _⟩
theorem get_text (g : HLay W hb sb vc T H u h) (w : Nat) (hw : w < 18446744073709551616) (id : Nat) (hi : hit H w = some id) (t : ByteArray) (hc : H[id]? = some (some (.text (strB t)))) :
    Calls Tryz.prog 43 #[.pointer (some ⟨hb, 0, none⟩), .int .u64 w] W fun e w' => e = .returned (.tuple #[.agg #[.int .i64 4, .bool false, .int .i64 0, .string t, .slice none 0 0, .slice none 0 0, .int .u64 0, .int .i64 0, .int .i64 0], .int .i64 0]) ∧ Below W.heap.size W w' :=
  get_c g w hw id hi 4 false 0 t none none 0 0 0 0 0 0 0 (fun w1 hB => load_text (g.below hB) id t hc)
end
end Go.Proofs.YtikgicepdalfpaaGreat.W
/- Package heap: load and Get, of a buffer and of a view. -/
namespace Go.Proofs.YtikgicepdalfpaaGreat.W
open Go.ChangeShapes Go.WideShapes Go.RowKit Go.Shelf
set_option linter.unusedVariables false
theorem nine_far (w : World) (gb : Nat) (v0 v1 v2 v3 v4 v5 v6 v7 v8 : Value) (k : Nat) (h : k ≠ gb) : (((((((((w.setCell ⟨gb, 0, none⟩ v0).setCell ⟨gb, 1, none⟩ v1).setCell ⟨gb, 2, none⟩ v2).setCell ⟨gb, 3, none⟩ v3).setCell ⟨gb, 4, none⟩ v4).setCell ⟨gb, 5, none⟩ v5).setCell ⟨gb, 6, none⟩ v6).setCell ⟨gb, 7, none⟩ v7).setCell ⟨gb, 8, none⟩ v8).heap[k]? = w.heap[k]? := by
  rw [Below.heap_setCell _ _ _ _ h, Below.heap_setCell _ _ _ _ h, Below.heap_setCell _ _ _ _ h, Below.heap_setCell _ _ _ _ h, Below.heap_setCell _ _ _ _ h, Below.heap_setCell _ _ _ _ h, Below.heap_setCell _ _ _ _ h, Below.heap_setCell _ _ _ _ h, Below.heap_setCell _ _ _ _ h]
section
variable {W W' : World} {hb sb : Nat} {vc : Value} {T : Nat → Prop} {H : List (Option Hc)} {u h : Nat}
set_option maxHeartbeats 1000000 in
theorem load_buf (g : HLay W hb sb vc T H u h) (id : Nat) (k : Int) (bs : List Nat) (hc : H[id]? = some (some (.buf k bs))) :
    Calls Tryz.prog 76 #[.pointer (some ⟨hb, 0, none⟩), .int .i64 id] W fun e w' => ∃ gb, e = .returned (.agg #[.int .i64 k, .bool false, .int .i64 0, .string ⟨#[]⟩, .slice (some ⟨gb, 0, none⟩) bs.length bs.length, .slice none 0 0, .int .u64 0, .int .i64 0, .int .i64 0]) ∧ W.heap.size + 1 ≤ gb ∧ Below W.heap.size W w' ∧ w'.ownsRow (W.heap.size + 1) 5 1 (.slice (some ⟨gb, 0, none⟩) bs.length bs.length) bs.length (bs.map byteV) := by
  have hidl : id < H.length := (List.getElem?_eq_some_iff.1 hc).1
  obtain ⟨b, cap, hvc, hcell, _⟩ := g.at hidl
  have c1 := g.cell 1
  simp only [List.getElem?_cons_succ, List.getElem?_cons_zero] at c1
  rw [hvc] at c1
  have k0 := hcell 0 _ hc (by omega)
  have k1 := hcell 1 _ hc (by omega)
  have k2 := hcell 2 _ hc (by omega)
  have k3 := hcell 3 _ hc (by omega)
  have k4 := hcell 4 _ hc (by omega)
  simp only [clO, Hc.cl, Cl.cells, List.getElem?_cons_succ, List.getElem?_cons_zero, Nat.add_zero] at k0 k1 k2 k3 k4
  have j0 : (0 : Int) ≤ id := by omega
  have j1 : (id : Int) < H.length := by omega
  have ho := g.ok id _ hc
  have hk : elB k > 0 := ho.1
  have cs : ∀ w, Calls Tryz.prog 59 #[.int .i64 k, .bool false] w fun e w' => e = .returned (.int .i64 3) ∧ w' = w := fun w => shape_buf k hk w
  clear hcell
  have hB1 : Below W.heap.size W (W.alloc (.cells #[.int .i64 0, .bool false, .int .i64 0, .string ⟨#[]⟩, .slice none 0 0, .slice none 0 0, .int .u64 0, .int .i64 0, .int .i64 0] 50)) := (Below.refl _ W).alloc (Nat.le_refl _) _
  have hs1 : (W.alloc (.cells #[.int .i64 0, .bool false, .int .i64 0, .string ⟨#[]⟩, .slice none 0 0, .slice none 0 0, .int .u64 0, .int .i64 0, .int .i64 0] 50)).heap.size = W.heap.size + 1 := World.size_alloc ..
  have e1 := World.cell?_alloc_new W #[.int .i64 0, .bool false, .int .i64 0, .string ⟨#[]⟩, .slice none 0 0, .slice none 0 0, .int .u64 0, .int .i64 0, .int .i64 0] 50
  have f1 := World.alloc_heap_new W (.cells #[.int .i64 0, .bool false, .int .i64 0, .string ⟨#[]⟩, .slice none 0 0, .slice none 0 0, .int .u64 0, .int .i64 0, .int .i64 0] 50)
  go_enter Tryz.func76, Tryz.ntmps76
  go_upto_region 1 with fail
  have c1' := below_cell hB1 c1
  have k0' := below_cell hB1 k0
  have k1' := below_cell hB1 k1
  have k2' := below_cell hB1 k2
  have k3' := below_cell hB1 k3
  have k4' := below_cell hB1 k4
  generalize hW1 : W.alloc (.cells #[.int .i64 0, .bool false, .int .i64 0, .string ⟨#[]⟩, .slice none 0 0, .slice none 0 0, .int .u64 0, .int .i64 0, .int .i64 0] 50) = W1 at *
  clear c1 k0 k1 k2 k3 k4 hW1
  go_upto_region 3 with fail
  have hB3 : Below W1.heap.size W1 ((W1.alloc (.cells #[.int .i64 k, .bool false, .int .u64 0, .int .i64 0, .int .i64 0] 105)).alloc (.cells #[.int .i64 k, .bool false, .int .i64 0, .string ⟨#[]⟩, .slice none 0 0, .slice none 0 0, .int .u64 0, .int .i64 0, .int .i64 0] 50)) := ((Below.refl _ W1).alloc (Nat.le_refl _) _).alloc (by rw [World.size_alloc]; omega) _
  have hs2 : (W1.alloc (.cells #[.int .i64 k, .bool false, .int .u64 0, .int .i64 0, .int .i64 0] 105)).heap.size = W.heap.size + 2 := by rw [World.size_alloc, hs1]
  have hs3 : ((W1.alloc (.cells #[.int .i64 k, .bool false, .int .u64 0, .int .i64 0, .int .i64 0] 105)).alloc (.cells #[.int .i64 k, .bool false, .int .i64 0, .string ⟨#[]⟩, .slice none 0 0, .slice none 0 0, .int .u64 0, .int .i64 0, .int .i64 0] 50)).heap.size = W.heap.size + 3 := by rw [World.size_alloc, hs2]
  have eO := World.cell?_alloc_new (W1.alloc (.cells #[.int .i64 k, .bool false, .int .u64 0, .int .i64 0, .int .i64 0] 105)) #[.int .i64 k, .bool false, .int .i64 0, .string ⟨#[]⟩, .slice none 0 0, .slice none 0 0, .int .u64 0, .int .i64 0, .int .i64 0] 50
  have eC := World.cell?_alloc_new W1 #[.int .i64 k, .bool false, .int .u64 0, .int .i64 0, .int .i64 0] 105
  have eC3 : ∀ j, ((W1.alloc (.cells #[.int .i64 k, .bool false, .int .u64 0, .int .i64 0, .int .i64 0] 105)).alloc (.cells #[.int .i64 k, .bool false, .int .i64 0, .string ⟨#[]⟩, .slice none 0 0, .slice none 0 0, .int .u64 0, .int .i64 0, .int .i64 0] 50)).cell? ⟨W.heap.size + 1, j, none⟩ = #[Value.int .i64 k, .bool false, .int .u64 0, .int .i64 0, .int .i64 0][j]? := by
    intro j
    rw [← hs1, ← eC j]
    exact World.cell?_of_block (Below.heap_alloc _ _ _ (by show W1.heap.size < _; rw [World.size_alloc]; omega))
  have fO := World.alloc_heap_new (W1.alloc (.cells #[.int .i64 k, .bool false, .int .u64 0, .int .i64 0, .int .i64 0] 105)) (.cells #[.int .i64 k, .bool false, .int .i64 0, .string ⟨#[]⟩, .slice none 0 0, .slice none 0 0, .int .u64 0, .int .i64 0, .int .i64 0] 50)
  rw [hs2, show W.heap.size + 2 = W.heap.size + 1 + 1 from rfl] at eO fO
  generalize (W1.alloc (.cells #[.int .i64 k, .bool false, .int .u64 0, .int .i64 0, .int .i64 0] 105)).alloc (.cells #[.int .i64 k, .bool false, .int .i64 0, .string ⟨#[]⟩, .slice none 0 0, .slice none 0 0, .int .u64 0, .int .i64 0, .int .i64 0] 50) = W3 at *
  have eR3 : ∀ j, W3.cell? ⟨W.heap.size, j, none⟩ = #[.int .i64 0, .bool false, .int .i64 0, .string ⟨#[]⟩, .slice none 0 0, .slice none 0 0, .int .u64 0, .int .i64 0, .int .i64 0][j]? := by
    intro j
    rw [World.cell?_of_block (hB3.block W.heap.size (by omega))]
    exact e1 j
  have hBW : Below W.heap.size W W3 := hB1.trans (hB3.mono hB1.size)
  have g3 := g.below hBW
  have fR : W3.heap[W.heap.size]? = some (.cells #[.int .i64 0, .bool false, .int .i64 0, .string ⟨#[]⟩, .slice none 0 0, .slice none 0 0, .int .u64 0, .int .i64 0, .int .i64 0] 50) := (hB3.block W.heap.size (by omega)).trans f1
  have c0 := g3.cell 0
  simp only [List.getElem?_cons_zero] at c0
  have cl := loadBytes_c g3 id _ hc bs rfl ho.2.1 (by have := ho.2.2; exact this)
  have kp : Hid (∀ w4, Below W3.heap.size W3 w4 → w4.heap[W.heap.size]? = some (.cells #[.int .i64 0, .bool false, .int .i64 0, .string ⟨#[]⟩, .slice none 0 0, .slice none 0 0, .int .u64 0, .int .i64 0, .int .i64 0] 50) ∧ w4.heap[W.heap.size + 1 + 1]? = some (.cells #[.int .i64 k, .bool false, .int .i64 0, .string ⟨#[]⟩, .slice none 0 0, .slice none 0 0, .int .u64 0, .int .i64 0, .int .i64 0] 50)) := by
    show ∀ w4, _
    intro w4 hB4
    exact ⟨(hB4.block _ (by omega)).trans fR, (hB4.block _ (by omega)).trans fO⟩
  clear eR3 fR fO g3 e1 c1' k0' k1' k2' k3' k4' f1
  go_upto_region 10 with (go_at_call 59; (with_reducible refine (cs _).mono ?_); rintro e w' ⟨rfl, hw⟩; (have hw' := hw.symm); subst hw'; clear hw)
  have HBW := hid hBW
  have HS3 := hid hs3
  clear g ho hc hBW hB1 hB3 hs1 hs2 hs3 j0 j1 hk
  generalize hnn : bs.length = nn at *
  go_wp2_with (go_at_call 118; (with_reducible refine cl.mono ?_); rintro e w4 ⟨gb, rfl, hgb, hB4, hown⟩; clear cl; (obtain ⟨fR, fO⟩ := kp.out w4 hB4); (have eR := fun j => cell_of_row w4 W.heap.size j _ _ _ fR); (have eO := fun j => cell_of_row w4 (W.heap.size + 1 + 1) j _ _ _ fO); (have zR := (fun j => by simp [World.frozen?, fR] : ∀ j, w4.frozen? ⟨W.heap.size, j, none⟩ = false)); (have zO := (fun j => by simp [World.frozen?, fO] : ∀ j, w4.frozen? ⟨W.heap.size + 1 + 1, j, none⟩ = false)); (have FR := hid fR); (have HB4 := hid hB4); (have HO := hid hown); (have HG := hid hgb); clear fR fO hB4 hown hgb)
  subst hnn
  have hBf : Below W.heap.size W w4 := HBW.out.trans (HB4.out.mono HBW.out.size)
  refine bodyPost_ret (cell_ret rfl _ _ W.heap.size _ _ _ _ _ _ _ _ _ (0, 0) rfl (nine_set ((Below.heap_setCell _ _ _ _ (by show W.heap.size ≠ W.heap.size + 1 + 1; omega)).trans FR.out) _ _ _ _ _ _ _ _ _)) rfl ?_
  have hge : W.heap.size + 3 ≤ gb := by have := HG.out; have := HS3.out; omega
  refine ⟨gb, rfl, by omega, nine_below (hBf.setCell (p := ⟨W.heap.size + 1 + 1, 4, none⟩) (by show W.heap.size ≤ W.heap.size + 1 + 1; omega) _) (Nat.le_refl _) _ _ _ _ _ _ _ _ _, ?_⟩
  refine owns_on (owns_base HO.out (fun g e => by cases e; show W.heap.size + 1 ≤ gb; omega)) (fun q e => ?_)
  cases e
  refine (nine_far _ _ _ _ _ _ _ _ _ _ _ gb (by omega)).trans (Below.heap_setCell _ _ _ _ ?_)
  show gb ≠ W.heap.size + 1 + 1
  omega
theorem get_buf (g : HLay W hb sb vc T H u h) (w : Nat) (hw : w < 18446744073709551616) (id : Nat) (hi : hit H w = some id) (k : Int) (bs : List Nat) (hc : H[id]? = some (some (.buf k bs))) :
    Calls Tryz.prog 43 #[.pointer (some ⟨hb, 0, none⟩), .int .u64 w] W fun e w' => ∃ gb, e = .returned (.tuple #[.agg #[.int .i64 k, .bool false, .int .i64 0, .string ⟨#[]⟩, .slice (some ⟨gb, 0, none⟩) bs.length bs.length, .slice none 0 0, .int .u64 0, .int .i64 0, .int .i64 0], .int .i64 0]) ∧ W.heap.size ≤ gb ∧ Below W.heap.size W w' ∧ w'.ownsRow W.heap.size 5 1 (.slice (some ⟨gb, 0, none⟩) bs.length bs.length) bs.length (bs.map byteV) := by
  have hB1 : Below W.heap.size W (W.alloc (.cells #[.int .i64 0, .bool false, .int .i64 0, .string ⟨#[]⟩, .slice none 0 0, .slice none 0 0, .int .u64 0, .int .i64 0, .int .i64 0] 50)) := (Below.refl _ W).alloc (Nat.le_refl _) _
  have hs1 : (W.alloc (.cells #[.int .i64 0, .bool false, .int .i64 0, .string ⟨#[]⟩, .slice none 0 0, .slice none 0 0, .int .u64 0, .int .i64 0, .int .i64 0] 50)).heap.size = W.heap.size + 1 := World.size_alloc ..
  have f1 := World.alloc_heap_new W (.cells #[.int .i64 0, .bool false, .int .i64 0, .string ⟨#[]⟩, .slice none 0 0, .slice none 0 0, .int .u64 0, .int .i64 0, .int .i64 0] 50)
  have cf := find_c (g.below hB1) w hw
  rw [hi] at cf
  simp only [Option.getD_some, Option.isSome_some] at cf
  have cl := load_buf (g.below hB1) id k bs hc

  have kp : Hid (∀ w4, Below (W.alloc (.cells #[.int .i64 0, .bool false, .int .i64 0, .string ⟨#[]⟩, .slice none 0 0, .slice none 0 0, .int .u64 0, .int .i64 0, .int .i64 0] 50)).heap.size (W.alloc (.cells #[.int .i64 0, .bool false, .int .i64 0, .string ⟨#[]⟩, .slice none 0 0, .slice none 0 0, .int .u64 0, .int .i64 0, .int .i64 0] 50)) w4 → w4.heap[W.heap.size]? = some (.cells #[.int .i64 0, .bool false, .int .i64 0, .string ⟨#[]⟩, .slice none 0 0, .slice none 0 0, .int .u64 0, .int .i64 0, .int .i64 0] 50) ∧ Below W.heap.size W w4) := by
    show ∀ w4, _
    intro w4 hB4
    exact ⟨(hB4.block _ (by omega)).trans f1, hB1.trans (hB4.mono hB1.size)⟩
  clear hc
  generalize hnn : bs.length = nn at *
  go_enter Tryz.func43, Tryz.ntmps43
  go_upto_region 1 with fail
  generalize W.alloc (.cells #[.int .i64 0, .bool false, .int .i64 0, .string ⟨#[]⟩, .slice none 0 0, .slice none 0 0, .int .u64 0, .int .i64 0, .int .i64 0] 50) = W1 at *
  go_wp2_with (first | (go_at_call 68; (with_reducible refine cf.mono ?_); rintro e w' ⟨rfl, hw⟩; (have hw' := hw.symm); subst hw'; clear hw cf) | (go_at_call 76; (with_reducible refine cl.mono ?_); rintro e w4 ⟨gb, rfl, hgb, hB4, hown⟩; clear cl; (obtain ⟨fR, hBf⟩ := kp.out w4 hB4); (have HO := hid hown); (have HG := hid hgb); clear hown hgb; (have eR := fun j => cell_of_row w4 W.heap.size j _ _ _ fR); (have zR := (fun j => by simp [World.frozen?, fR] : ∀ j, w4.frozen? ⟨W.heap.size, j, none⟩ = false)); (have FR := hid fR); clear fR))
  refine bodyPost_ret (cell_ret2 rfl _ _ W.heap.size _ _ _ _ _ _ _ _ _ (0, 0) rfl (nine_set FR.out _ _ _ _ _ _ _ _ _)) rfl ?_
  subst hnn
  refine ⟨gb, rfl, by have := HG.out; omega, nine_below hBf (Nat.le_refl _) _ _ _ _ _ _ _ _ _, ?_⟩
  refine owns_on (owns_base HO.out (fun g e => by cases e; show W.heap.size ≤ gb; have := HG.out; omega)) (fun q e => ?_)
  cases e
  exact nine_far _ _ _ _ _ _ _ _ _ _ _ gb (by have := HG.out; omega)
set_option maxHeartbeats 1000000 in
theorem load_view (g : HLay W hb sb vc T H u h) (id : Nat) (k : Int) (ba p n : Nat) (hc : H[id]? = some (some (.view k ba p n))) :
    Calls Tryz.prog 76 #[.pointer (some ⟨hb, 0, none⟩), .int .i64 id] W fun e w' => e = .returned (.agg #[.int .i64 k, .bool true, .int .i64 0, .string ⟨#[]⟩, .slice none 0 0, .slice none 0 0, .int .u64 ba, .int .i64 p, .int .i64 n]) ∧ Below W.heap.size W w' := by
  have hidl : id < H.length := (List.getElem?_eq_some_iff.1 hc).1
  obtain ⟨b, cap, hvc, hcell, _⟩ := g.at hidl
  have c1 := g.cell 1
  simp only [List.getElem?_cons_succ, List.getElem?_cons_zero] at c1
  rw [hvc] at c1
  have k0 := hcell 0 _ hc (by omega)
  have k1 := hcell 1 _ hc (by omega)
  have k2 := hcell 2 _ hc (by omega)
  have k3 := hcell 3 _ hc (by omega)
  have k4 := hcell 4 _ hc (by omega)
  simp only [clO, Hc.cl, Cl.cells, List.getElem?_cons_succ, List.getElem?_cons_zero, Nat.add_zero] at k0 k1 k2 k3 k4
  have j0 : (0 : Int) ≤ id := by omega
  have j1 : (id : Int) < H.length := by omega
  have ho := g.ok id _ hc
  have hk : elB k > 0 := ho.1
  have cs : ∀ w, Calls Tryz.prog 59 #[.int .i64 k, .bool true] w fun e w' => e = .returned (.int .i64 4) ∧ w' = w := fun w => shape_view k hk w
  clear hcell
  have hB1 : Below W.heap.size W (W.alloc (.cells #[.int .i64 0, .bool false, .int .i64 0, .string ⟨#[]⟩, .slice none 0 0, .slice none 0 0, .int .u64 0, .int .i64 0, .int .i64 0] 50)) := (Below.refl _ W).alloc (Nat.le_refl _) _
  have hs1 : (W.alloc (.cells #[.int .i64 0, .bool false, .int .i64 0, .string ⟨#[]⟩, .slice none 0 0, .slice none 0 0, .int .u64 0, .int .i64 0, .int .i64 0] 50)).heap.size = W.heap.size + 1 := World.size_alloc ..
  have e1 := World.cell?_alloc_new W #[.int .i64 0, .bool false, .int .i64 0, .string ⟨#[]⟩, .slice none 0 0, .slice none 0 0, .int .u64 0, .int .i64 0, .int .i64 0] 50
  have f1 := World.alloc_heap_new W (.cells #[.int .i64 0, .bool false, .int .i64 0, .string ⟨#[]⟩, .slice none 0 0, .slice none 0 0, .int .u64 0, .int .i64 0, .int .i64 0] 50)
  go_enter Tryz.func76, Tryz.ntmps76
  go_upto_region 1 with fail
  have c1' := below_cell hB1 c1
  have k0' := below_cell hB1 k0
  have k1' := below_cell hB1 k1
  have k2' := below_cell hB1 k2
  have k3' := below_cell hB1 k3
  have k4' := below_cell hB1 k4
  generalize hW1 : W.alloc (.cells #[.int .i64 0, .bool false, .int .i64 0, .string ⟨#[]⟩, .slice none 0 0, .slice none 0 0, .int .u64 0, .int .i64 0, .int .i64 0] 50) = W1 at *
  clear c1 k0 k1 k2 k3 k4 hW1
  go_upto_region 3 with fail
  have hB3 : Below W1.heap.size W1 ((W1.alloc (.cells #[.int .i64 k, .bool true, .int .u64 ba, .int .i64 p, .int .i64 n] 105)).alloc (.cells #[.int .i64 k, .bool true, .int .i64 0, .string ⟨#[]⟩, .slice none 0 0, .slice none 0 0, .int .u64 ba, .int .i64 p, .int .i64 n] 50)) := ((Below.refl _ W1).alloc (Nat.le_refl _) _).alloc (by rw [World.size_alloc]; omega) _
  have hs2 : (W1.alloc (.cells #[.int .i64 k, .bool true, .int .u64 ba, .int .i64 p, .int .i64 n] 105)).heap.size = W.heap.size + 2 := by rw [World.size_alloc, hs1]
  have hs3 : ((W1.alloc (.cells #[.int .i64 k, .bool true, .int .u64 ba, .int .i64 p, .int .i64 n] 105)).alloc (.cells #[.int .i64 k, .bool true, .int .i64 0, .string ⟨#[]⟩, .slice none 0 0, .slice none 0 0, .int .u64 ba, .int .i64 p, .int .i64 n] 50)).heap.size = W.heap.size + 3 := by rw [World.size_alloc, hs2]
  have eO := World.cell?_alloc_new (W1.alloc (.cells #[.int .i64 k, .bool true, .int .u64 ba, .int .i64 p, .int .i64 n] 105)) #[.int .i64 k, .bool true, .int .i64 0, .string ⟨#[]⟩, .slice none 0 0, .slice none 0 0, .int .u64 ba, .int .i64 p, .int .i64 n] 50
  have eC := World.cell?_alloc_new W1 #[.int .i64 k, .bool true, .int .u64 ba, .int .i64 p, .int .i64 n] 105
  have eC3 : ∀ j, ((W1.alloc (.cells #[.int .i64 k, .bool true, .int .u64 ba, .int .i64 p, .int .i64 n] 105)).alloc (.cells #[.int .i64 k, .bool true, .int .i64 0, .string ⟨#[]⟩, .slice none 0 0, .slice none 0 0, .int .u64 ba, .int .i64 p, .int .i64 n] 50)).cell? ⟨W.heap.size + 1, j, none⟩ = #[Value.int .i64 k, .bool true, .int .u64 ba, .int .i64 p, .int .i64 n][j]? := by
    intro j
    rw [← hs1, ← eC j]
    exact World.cell?_of_block (Below.heap_alloc _ _ _ (by show W1.heap.size < _; rw [World.size_alloc]; omega))
  have fO := World.alloc_heap_new (W1.alloc (.cells #[.int .i64 k, .bool true, .int .u64 ba, .int .i64 p, .int .i64 n] 105)) (.cells #[.int .i64 k, .bool true, .int .i64 0, .string ⟨#[]⟩, .slice none 0 0, .slice none 0 0, .int .u64 ba, .int .i64 p, .int .i64 n] 50)
  rw [hs2, show W.heap.size + 2 = W.heap.size + 1 + 1 from rfl] at eO fO
  generalize (W1.alloc (.cells #[.int .i64 k, .bool true, .int .u64 ba, .int .i64 p, .int .i64 n] 105)).alloc (.cells #[.int .i64 k, .bool true, .int .i64 0, .string ⟨#[]⟩, .slice none 0 0, .slice none 0 0, .int .u64 ba, .int .i64 p, .int .i64 n] 50) = W3 at *
  have eR3 : ∀ j, W3.cell? ⟨W.heap.size, j, none⟩ = #[.int .i64 0, .bool false, .int .i64 0, .string ⟨#[]⟩, .slice none 0 0, .slice none 0 0, .int .u64 0, .int .i64 0, .int .i64 0][j]? := by
    intro j
    rw [World.cell?_of_block (hB3.block W.heap.size (by omega))]
    exact e1 j
  have hBW : Below W.heap.size W W3 := hB1.trans (hB3.mono hB1.size)
  have g3 := g.below hBW
  have fR : W3.heap[W.heap.size]? = some (.cells #[.int .i64 0, .bool false, .int .i64 0, .string ⟨#[]⟩, .slice none 0 0, .slice none 0 0, .int .u64 0, .int .i64 0, .int .i64 0] 50) := (hB3.block W.heap.size (by omega)).trans f1
  have HBW := hid hBW
  have eR := fun j => cell_of_row W3 W.heap.size j _ _ _ fR
  have zR : ∀ j, W3.frozen? ⟨W.heap.size, j, none⟩ = false := fun j => by simp [World.frozen?, fR]
  have FR := hid fR
  clear fO eR3 fR g3 e1 c1' k0' k1' k2' k3' k4' f1 g ho hc hBW hB1 hB3 hs1 hs2 hs3 j0 j1 hk
  go_wp2_with (go_at_call 59; (with_reducible refine (cs _).mono ?_); rintro e w' ⟨rfl, hw⟩; (have hw' := hw.symm); subst hw'; clear hw)
  refine bodyPost_ret (cell_ret rfl _ _ W.heap.size _ _ _ _ _ _ _ _ _ (0, 0) rfl (nine_set FR.out _ _ _ _ _ _ _ _ _)) rfl ?_
  exact ⟨rfl, nine_below HBW.out (Nat.le_refl _) _ _ _ _ _ _ _ _ _⟩
theorem get_view (g : HLay W hb sb vc T H u h) (w : Nat) (hw : w < 18446744073709551616) (id : Nat) (hi : hit H w = some id) (k : Int) (ba p n : Nat) (hc : H[id]? = some (some (.view k ba p n))) :
    Calls Tryz.prog 43 #[.pointer (some ⟨hb, 0, none⟩), .int .u64 w] W fun e w' => e = .returned (.tuple #[.agg #[.int .i64 k, .bool true, .int .i64 0, .string ⟨#[]⟩, .slice none 0 0, .slice none 0 0, .int .u64 ba, .int .i64 p, .int .i64 n], .int .i64 0]) ∧ Below W.heap.size W w' :=
  get_c g w hw id hi k true 0 ⟨#[]⟩ none none 0 0 0 0 ba p n (fun w1 hB => load_view (g.below hB) id k ba p n hc)
end
end Go.Proofs.YtikgicepdalfpaaGreat.W
/- Package heap: right and Put, of a buffer. -/
namespace Go.Proofs.YtikgicepdalfpaaGreat.W
open Go.ChangeShapes Go.WideShapes Go.RowKit Go.Shelf
set_option linter.unusedVariables false
section
variable {W W' : World} {hb sb : Nat} {vc : Value} {T : Nat → Prop} {H : List (Option Hc)} {u h : Nat}
set_option maxHeartbeats 1000000 in
set_option maxRecDepth 100000 in
theorem right_buf (k : Int) (hk : elB k > 0) (ob ow : Option Addr) (bc wc nn : Nat) (hl : nn ≤ 8388608) (hmod : nn % elB k = 0) (hb : Nat) (W : World) : Calls Tryz.prog 32 #[.pointer (some ⟨hb, 0, none⟩), .agg #[.int .i64 k, .bool false, .int .i64 0, .string ⟨#[]⟩, .slice ob nn bc, .slice ow 0 wc, .int .u64 0, .int .i64 0, .int .i64 0]] W fun e w' => e = .returned (.bool true) ∧ Below W.heap.size W w' := by
  have cp : ∀ w, Calls Tryz.prog 58 #[.agg #[.int .i64 k, .bool false, .int .i64 0, .string ⟨#[]⟩, .slice ob nn bc, .slice ow 0 wc, .int .u64 0, .int .i64 0, .int .i64 0]] w fun e w' => e = .returned (.bool true) ∧ Below w.heap.size w w' := fun w => plain_buf k hk ob ow nn bc wc w
  have cs : ∀ w, Calls Tryz.prog 59 #[.int .i64 k, .bool false] w fun e w' => e = .returned (.int .i64 3) ∧ w' = w := fun w => shape_buf k hk w
  have ce : ∀ w, Calls Tryz.prog 60 #[.int .i64 k] w fun e w' => e = .returned (.int .i64 (elB k : Nat)) ∧ w' = w := fun w => elementBytes_c k w
  have hB := (show Below W.heap.size W (W.alloc (.cells #[.int .i64 k, .bool false, .int .i64 0, .string ⟨#[]⟩, .slice ob nn bc, .slice ow 0 wc, .int .u64 0, .int .i64 0, .int .i64 0] 50)) from (Below.refl _ W).alloc (Nat.le_refl _) _)
  have hs1 : (W.alloc (.cells #[.int .i64 k, .bool false, .int .i64 0, .string ⟨#[]⟩, .slice ob nn bc, .slice ow 0 wc, .int .u64 0, .int .i64 0, .int .i64 0] 50)).heap.size = W.heap.size + 1 := World.size_alloc ..
  have l1 : (nn : Int) ≤ 8388608 := by omega
  generalize elB k = ev at *
  have hm2 : (nn : Int) % (ev : Int) = 0 := by omega
  have hm3 : Int.tmod (nn : Int) (ev : Int) = 0 := by rw [Int.tmod_eq_emod_of_nonneg (by omega)]; exact hm2
  have e0 : ¬ ((ev : Nat) : Int) = 0 := by omega
  have kp : Hid (∀ w2, Below (W.alloc (.cells #[.int .i64 k, .bool false, .int .i64 0, .string ⟨#[]⟩, .slice ob nn bc, .slice ow 0 wc, .int .u64 0, .int .i64 0, .int .i64 0] 50)).heap.size (W.alloc (.cells #[.int .i64 k, .bool false, .int .i64 0, .string ⟨#[]⟩, .slice ob nn bc, .slice ow 0 wc, .int .u64 0, .int .i64 0, .int .i64 0] 50)) w2 → (w2.cell? ⟨W.heap.size, 0, none⟩ = some (.int .i64 k) ∧ w2.cell? ⟨W.heap.size, 1, none⟩ = some (.bool false) ∧ w2.cell? ⟨W.heap.size, 4, none⟩ = some (.slice ob nn bc)) ∧ Below W.heap.size W w2) := by
    show ∀ w2, _
    intro w2 hB2
    have e := fun j => (World.cell?_of_block (a := ⟨W.heap.size, j, none⟩) (hB2.block W.heap.size (by omega))).trans (World.cell?_alloc_new W #[.int .i64 k, .bool false, .int .i64 0, .string ⟨#[]⟩, .slice ob nn bc, .slice ow 0 wc, .int .u64 0, .int .i64 0, .int .i64 0] 50 j)
    exact ⟨⟨e 0, e 1, e 4⟩, hB.trans (hB2.mono hB.size)⟩
  clear hs1 hmod hl hk
  go_enter Tryz.func32, Tryz.ntmps32
  go_upto_region 9 with (first | (go_at_call 58; (with_reducible refine (cp _).mono ?_); rintro e w2 ⟨rfl, hB2⟩; clear cp; (obtain ⟨⟨z0, z1, z4⟩, hBf⟩ := kp.out w2 hB2)) | (go_at_call 59; (with_reducible refine (cs _).mono ?_); rintro e w' ⟨rfl, hw⟩; (have hw' := hw.symm); subst hw'; clear hw))
  go_region_with (go_at_call 60; (with_reducible refine (ce _).mono ?_); rintro e w' ⟨rfl, hw⟩; (have hw' := hw.symm); subst hw'; clear hw)
  all_goals (
    simp only [Act.put, List.getElem_toArray, List.getElem_cons_zero, List.getElem_cons_succ, List.setIfInBounds_toArray, List.set_cons_zero, List.set_cons_succ]
    go_wp2
    go_ret
    exact ⟨rfl, ⟨hBf.os, hBf.tape, hBf.output, hBf.size, hBf.block⟩⟩)
theorem put_buf {S : Nat → Prop} (g : HSt W S hb H u) (hS : ∀ k, S k → k < W.heap.size) (k : Int) (hk : elB k > 0) (bs : List Nat) (hb256 : ∀ x ∈ bs, x < 256) (hl : bs.length ≤ 8388608) (hmod : bs.length % elB k = 0) (ob ow : Option Addr) (bc wc : Nat) (hcap : bs.length ≤ bc) (hv : ByteRow W ob bs) (ho : ∀ x, ob = some x → ¬ S x.block ∧ x.block < W.heap.size) (vr : Value) (rs : List Nat) (hr : WordsAt W vr rs) :
    Calls Tryz.prog 15 #[.pointer (some ⟨hb, 0, none⟩), .agg #[.int .i64 k, .bool false, .int .i64 0, .string ⟨#[]⟩, .slice ob bs.length bc, .slice ow 0 wc, .int .u64 0, .int .i64 0, .int .i64 0], vr] W (PutPost W S hb (roomH H u (.buf k bs) rs) u (.buf k bs)) := by
  refine hput_c g hS (.buf k bs) ⟨hk, hb256, hl⟩ 0 ⟨#[]⟩ ob ow bs.length bc 0 wc (by decide) hl (by decide) ?_ (words_nil W ow wc) (show 0 < _ by decide) ?_ ?_ vr rs hr
  · show sizeV k false 0 bs.length 0 = bs.length
    have e3 : shp k false = 3 := by
      unfold shp
      simp [hk]
    unfold sizeV
    rw [e3]; rfl
  · intro w hB
    exact right_buf k hk ob ow bc wc bs.length hl hmod hb w
  · intro sb h W' T' vc' H' id hl' hi hT hU
    have e : (Hc.buf k bs).zero = .buf k (List.replicate bs.length 0) := rfl
    rw [e] at hi
    exact save_buf hl' id k hk bs hb256 hi hl ob ow bc wc hcap (byteRow_upd hv hU (fun x e => (ho x e).1)) (fun x e => ⟨fun e2 => by rcases hT _ e2 with e3 | e3; exact (ho x e).1 e3; have := (ho x e).2; omega, Nat.lt_of_lt_of_le (ho x e).2 hU.size⟩)
end
end Go.Proofs.YtikgicepdalfpaaGreat.W
/- Package heap: right and Put, of a view. -/
namespace Go.Proofs.YtikgicepdalfpaaGreat.W
open Go.ChangeShapes Go.WideShapes Go.RowKit Go.Shelf
set_option linter.unusedVariables false
section
variable {W W' : World} {hb sb : Nat} {vc : Value} {T : Nat → Prop} {H : List (Option Hc)} {u h : Nat}
set_option maxRecDepth 100000 in
set_option maxHeartbeats 1000000 in
theorem rightView_c (g : HLay W hb sb vc T H u h) (k : Int) (hk : elB k > 0) (ob ow : Option Addr) (bc wc ba p n : Nat) (hba : ba < 18446744073709551616) (id : Nat) (hi : hit H ba = some id) (k2 : Int) (bs : List Nat) (hc : H[id]? = some (some (.buf k2 bs))) (hp : p ≤ bs.length) (hpm : p % elB k = 0) (hn : n ≤ (bs.length - p) / elB k) : Calls Tryz.prog 61 #[.pointer (some ⟨hb, 0, none⟩), .agg #[.int .i64 k, .bool true, .int .i64 0, .string ⟨#[]⟩, .slice ob 0 bc, .slice ow 0 wc, .int .u64 ba, .int .i64 p, .int .i64 n]] W fun e w' => e = .returned (.bool true) ∧ Below W.heap.size W w' := by
  have hB1 : Below W.heap.size W (W.alloc (.cells #[.int .i64 k, .bool true, .int .i64 0, .string ⟨#[]⟩, .slice ob 0 bc, .slice ow 0 wc, .int .u64 ba, .int .i64 p, .int .i64 n] 50)) := (Below.refl _ W).alloc (Nat.le_refl _) _
  have e1 := World.cell?_alloc_new W #[.int .i64 k, .bool true, .int .i64 0, .string ⟨#[]⟩, .slice ob 0 bc, .slice ow 0 wc, .int .u64 ba, .int .i64 p, .int .i64 n] 50
  have ga := g.below hB1
  have hidl : id < H.length := (List.getElem?_eq_some_iff.1 hc).1
  obtain ⟨b, cap, hvc, hcell, _⟩ := ga.at hidl
  have c1 := ga.cell 1
  simp only [List.getElem?_cons_succ, List.getElem?_cons_zero] at c1
  rw [hvc] at c1
  have k0 := hcell 0 _ hc (by omega)
  have k1 := hcell 1 _ hc (by omega)
  simp only [clO, Hc.cl, Cl.cells, List.getElem?_cons_succ, List.getElem?_cons_zero, Nat.add_zero] at k0 k1
  have j0 : (0 : Int) ≤ id := by omega
  have j1 : (id : Int) < H.length := by omega
  have ok := g.ok id _ hc
  have hk2 : elB k2 > 0 := ok.1
  have hl8 : bs.length ≤ 8388608 := ok.2.2
  have cf := find_c ga ba hba
  rw [hi] at cf
  simp only [Option.getD_some, Option.isSome_some] at cf
  have cs : ∀ w, Calls Tryz.prog 59 #[.int .i64 k2, .bool false] w fun e w' => e = .returned (.int .i64 3) ∧ w' = w := fun w => shape_buf k2 hk2 w
  have ce : ∀ w, Calls Tryz.prog 60 #[.int .i64 k] w fun e w' => e = .returned (.int .i64 (elB k : Nat)) ∧ w' = w := fun w => elementBytes_c k w
  have cb : ∀ m, Calls Tryz.prog 69 #[.pointer (some ⟨hb, 0, none⟩), .int .i64 id] (((W.alloc (.cells #[.int .i64 k, .bool true, .int .i64 0, .string ⟨#[]⟩, .slice ob 0 bc, .slice ow 0 wc, .int .u64 ba, .int .i64 p, .int .i64 n] 50))).drewN m) fun e w' => e = .returned (.int .i64 bs.length) ∧ w' = ((W.alloc (.cells #[.int .i64 k, .bool true, .int .i64 0, .string ⟨#[]⟩, .slice ob 0 bc, .slice ow 0 wc, .int .u64 ba, .int .i64 p, .int .i64 n] 50))).drewN m := fun m => bytes_c (ga.same (W' := ((W.alloc (.cells #[.int .i64 k, .bool true, .int .i64 0, .string ⟨#[]⟩, .slice ob 0 bc, .slice ow 0 wc, .int .u64 ba, .int .i64 p, .int .i64 n] 50))).drewN m) rfl) id _ hc
  have HB := hid hB1
  clear hcell ok hc g ga hB1
  generalize hev : elB k = ev at *
  generalize hnn : bs.length = nn at *
  have e0 : ¬ ((ev : Nat) : Int) = 0 := by omega
  have p0 : ¬ (p : Int) < 0 := by omega
  have p1 : ¬ (p : Int) > nn := by omega
  have p2 : Int.tmod (p : Int) (ev : Int) = 0 := by rw [Int.tmod_eq_emod_of_nonneg (by omega)]; omega
  have p3 : IntKind.i64.wrap ((nn : Int) - p) = ((nn - p : Nat) : Int) := by rw [IntKind.wrap_i64]; omega
  have p4 : Int.tdiv ((nn - p : Nat) : Int) (ev : Int) = (((nn - p) / ev : Nat) : Int) := by rw [Int.tdiv_eq_ediv_of_nonneg (by omega)]; omega
  have n0 : (n : Int) ≥ 0 := by omega
  have n1 : (n : Int) ≤ (((nn - p) / ev : Nat) : Int) := by omega
  have hQ : (nn - p) / ev ≤ 8388608 := by have := Nat.div_le_self (nn - p) ev; omega
  have wQ : wrap64 (((nn - p) / ev : Nat) : Int) = (((nn - p) / ev : Nat) : Int) := by unfold wrap64; omega
  generalize (nn - p) / ev = Q at *
  generalize nn - p = D at *
  clear hp hpm hn hk hk2 hev hnn hvc hidl hi
  go_enter Tryz.func61, Tryz.ntmps61
  go_upto_region 2 with (go_at_call 68; (with_reducible refine cf.mono ?_); rintro e w' ⟨rfl, hw⟩; (have hw' := hw.symm); subst hw'; clear hw)
  go_quiet ((go_at_call 59; exact Calls.quiet_of_same (cs _)))
  go_upto_region 7 with (first | (go_at_call 60; (with_reducible refine (ce _).mono ?_); rintro e w' ⟨rfl, hw⟩; (have hw' := hw.symm); subst hw'; clear hw) | (go_at_call 69; (with_reducible refine (cb _).mono ?_); rintro e w' ⟨rfl, hw⟩; (have hw' := hw.symm); subst hw'; clear hw))
  go_quiet (fail)
  go_wp2
  go_ret
  exact ⟨rfl, ⟨HB.out.os, HB.out.tape, HB.out.output, HB.out.size, HB.out.block⟩⟩
set_option maxRecDepth 100000 in
theorem right_view (g : HLay W hb sb vc T H u h) (k : Int) (hk : elB k > 0) (ob ow : Option Addr) (bc wc ba p n : Nat) (hba : ba < 18446744073709551616) (id : Nat) (hi : hit H ba = some id) (k2 : Int) (bs : List Nat) (hc : H[id]? = some (some (.buf k2 bs))) (hp : p ≤ bs.length) (hpm : p % elB k = 0) (hn : n ≤ (bs.length - p) / elB k) : Calls Tryz.prog 32 #[.pointer (some ⟨hb, 0, none⟩), .agg #[.int .i64 k, .bool true, .int .i64 0, .string ⟨#[]⟩, .slice ob 0 bc, .slice ow 0 wc, .int .u64 ba, .int .i64 p, .int .i64 n]] W fun e w' => e = .returned (.bool true) ∧ Below W.heap.size W w' := by
  have cp : ∀ w, Calls Tryz.prog 58 #[.agg #[.int .i64 k, .bool true, .int .i64 0, .string ⟨#[]⟩, .slice ob 0 bc, .slice ow 0 wc, .int .u64 ba, .int .i64 p, .int .i64 n]] w fun e w' => e = .returned (.bool true) ∧ Below w.heap.size w w' := fun w => plain_view k hk ob ow bc wc ba p n w
  have cs : ∀ w, Calls Tryz.prog 59 #[.int .i64 k, .bool true] w fun e w' => e = .returned (.int .i64 4) ∧ w' = w := fun w => shape_view k hk w
  have hB := (show Below W.heap.size W (W.alloc (.cells #[.int .i64 k, .bool true, .int .i64 0, .string ⟨#[]⟩, .slice ob 0 bc, .slice ow 0 wc, .int .u64 ba, .int .i64 p, .int .i64 n] 50)) from (Below.refl _ W).alloc (Nat.le_refl _) _)
  have hs1 : ((W.alloc (.cells #[.int .i64 k, .bool true, .int .i64 0, .string ⟨#[]⟩, .slice ob 0 bc, .slice ow 0 wc, .int .u64 ba, .int .i64 p, .int .i64 n] 50))).heap.size = W.heap.size + 1 := World.size_alloc ..
  have cv : ∀ w, Below W.heap.size W w → Calls Tryz.prog 61 #[.pointer (some ⟨hb, 0, none⟩), .agg #[.int .i64 k, .bool true, .int .i64 0, .string ⟨#[]⟩, .slice ob 0 bc, .slice ow 0 wc, .int .u64 ba, .int .i64 p, .int .i64 n]] w fun e w' => e = .returned (.bool true) ∧ Below w.heap.size w w' := fun w hb' => rightView_c (g.below hb') k hk ob ow bc wc ba p n hba id hi k2 bs hc hp hpm hn
  have kp : Hid (∀ w2, Below ((W.alloc (.cells #[.int .i64 k, .bool true, .int .i64 0, .string ⟨#[]⟩, .slice ob 0 bc, .slice ow 0 wc, .int .u64 ba, .int .i64 p, .int .i64 n] 50))).heap.size (W.alloc (.cells #[.int .i64 k, .bool true, .int .i64 0, .string ⟨#[]⟩, .slice ob 0 bc, .slice ow 0 wc, .int .u64 ba, .int .i64 p, .int .i64 n] 50)) w2 → (∀ j, w2.cell? ⟨W.heap.size, j, none⟩ = #[.int .i64 k, .bool true, .int .i64 0, .string ⟨#[]⟩, .slice ob 0 bc, .slice ow 0 wc, .int .u64 ba, .int .i64 p, .int .i64 n][j]?) ∧ Below W.heap.size W w2) := by
    show ∀ w2, _
    intro w2 hB2
    exact ⟨fun j => (World.cell?_of_block (a := ⟨W.heap.size, j, none⟩) (hB2.block W.heap.size (by omega))).trans (World.cell?_alloc_new W #[.int .i64 k, .bool true, .int .i64 0, .string ⟨#[]⟩, .slice ob 0 bc, .slice ow 0 wc, .int .u64 ba, .int .i64 p, .int .i64 n] 50 j), hB.trans (hB2.mono hB.size)⟩
  clear hs1 hk hc hp hpm hn hi g hB
  go_enter Tryz.func32, Tryz.ntmps32
  go_wp2_with (first | (go_at_call 58; (with_reducible refine (cp _).mono ?_); rintro e w2 ⟨rfl, hB2⟩; clear cp; (obtain ⟨z, hBf⟩ := kp.out w2 hB2); (have HBf := hid hBf); clear hBf hB2) | (go_at_call 59; (with_reducible refine (cs _).mono ?_); rintro e w' ⟨rfl, hw⟩; (have hw' := hw.symm); subst hw'; clear hw) | (go_at_call 61; (with_reducible refine (cv _ HBf.out).mono ?_); rintro e w3 ⟨rfl, hB3⟩; clear cv))
  go_ret
  exact ⟨rfl, HBf.out.trans (hB3.mono HBf.out.size)⟩
theorem put_view {S : Nat → Prop} (g : HSt W S hb H u) (hS : ∀ k, S k → k < W.heap.size) (k : Int) (hk : elB k > 0) (ba p n : Nat) (hba : ba < 18446744073709551616) (id : Nat) (hi : hit H ba = some id) (k2 : Int) (bs : List Nat) (hc : H[id]? = some (some (.buf k2 bs))) (hp : p ≤ bs.length) (hpm : p % elB k = 0) (hn : n ≤ (bs.length - p) / elB k) (ob ow : Option Addr) (bc wc : Nat) (vr : Value) (rs : List Nat) (hr : WordsAt W vr rs) :
    Calls Tryz.prog 15 #[.pointer (some ⟨hb, 0, none⟩), .agg #[.int .i64 k, .bool true, .int .i64 0, .string ⟨#[]⟩, .slice ob 0 bc, .slice ow 0 wc, .int .u64 ba, .int .i64 p, .int .i64 n], vr] W (PutPost W S hb (roomH H u (.view k ba p n) rs) u (.view k ba p n)) := by
  obtain ⟨sb0, vc0, T0, g1⟩ := g.lay
  have ok := g1.ok id _ hc
  have hl8 : bs.length ≤ 8388608 := ok.2.2
  have hn8 : n ≤ 8388608 := by
    have := Nat.div_le_self (bs.length - p) (elB k)
    omega
  refine hput_c g hS (.view k ba p n) ⟨hk, hba, by omega, hn8⟩ 0 ⟨#[]⟩ ob ow 0 bc 0 wc (by decide) (by decide) (by decide) ?_ (words_nil W ow wc) hba ?_ ?_ vr rs hr
  · show sizeV k true 0 0 0 = 0
    have e4 : shp k true = 4 := by
      unfold shp
      simp [hk]
    unfold sizeV
    rw [e4]; rfl
  · intro w hB
    exact right_view (g1.below hB) k hk ob ow bc wc ba p n hba id hi k2 bs hc hp hpm hn
  · intro sb h W' T' vc' H' id' hl' hi' hT hU
    have e : (Hc.view k ba p n).zero = .view k ba p n := rfl
    rw [e] at hi'
    refine (save_view hb id' k hk ob ow bc wc ba p n W').mono ?_
    rintro e w' ⟨rfl, hB⟩
    have es : H'.set id' (some (.view k ba p n)) = H' := by
      apply List.ext_getElem?
      intro i
      by_cases c : i = id'
      · subst c; rw [List.getElem?_set_self (List.getElem?_eq_some_iff.1 hi').1, hi']
      · rw [List.getElem?_set_ne (Ne.symm c)]
    rw [es]
    exact ⟨rfl, Upd.of_below hB, hl'.below hB⟩
end
end Go.Proofs.YtikgicepdalfpaaGreat.W
/- Package heap: where bytes stand (place); Read, Write, of buffers and views; Set. -/
namespace Go.Proofs.YtikgicepdalfpaaGreat.W
open Go.ChangeShapes Go.WideShapes Go.RowKit Go.Shelf
set_option linter.unusedVariables false
section
variable {W W' : World} {hb sb : Nat} {vc : Value} {T : Nat → Prop} {H : List (Option Hc)} {u h : Nat}
set_option maxRecDepth 100000 in
set_option maxHeartbeats 1000000 in
theorem place_buf (g : HLay W hb sb vc T H u h) (w : Nat) (hw : w < 18446744073709551616) (id : Nat) (hi : hit H w = some id) (k : Int) (bs : List Nat) (hc : H[id]? = some (some (.buf k bs))) (wd : Nat) (hwd : wd = 1 ∨ wd = 2 ∨ wd = 4 ∨ wd = 8) (off : Int) (ho0 : -9223372036854775808 ≤ off) (ho1 : off ≤ 9223372036854775807) :
    Calls Tryz.prog 138 #[.pointer (some ⟨hb, 0, none⟩), .int .u64 w, .int .i64 off, .int .i64 wd] W fun e w' => e = .returned (if 0 ≤ off ∧ off + wd ≤ bs.length then .tuple #[.int .i64 id, .int .i64 off, .int .i64 0] else .tuple #[.int .i64 0, .int .i64 0, .int .i64 31]) ∧ Below W.heap.size W w' := by
  have hidl : id < H.length := (List.getElem?_eq_some_iff.1 hc).1
  obtain ⟨b, cap, hvc, hcell, _⟩ := g.at hidl
  have c1 := g.cell 1
  simp only [List.getElem?_cons_succ, List.getElem?_cons_zero] at c1
  rw [hvc] at c1
  have k0 := hcell 0 _ hc (by omega)
  have k1 := hcell 1 _ hc (by omega)
  have k2 := hcell 2 _ hc (by omega)
  have k3 := hcell 3 _ hc (by omega)
  have k4 := hcell 4 _ hc (by omega)
  simp only [clO, Hc.cl, Cl.cells, List.getElem?_cons_succ, List.getElem?_cons_zero, Nat.add_zero] at k0 k1 k2 k3 k4
  have j0 : (0 : Int) ≤ id := by omega
  have j1 : (id : Int) < H.length := by omega
  have ok := g.ok id _ hc
  have hk : elB k > 0 := ok.1
  have hl8 : bs.length ≤ 8388608 := ok.2.2
  clear hcell
  have hB1 : Below W.heap.size W (W.alloc (.cells #[.int .i64 k, .bool false, .int .u64 0, .int .i64 0, .int .i64 0] 105)) := (Below.refl _ W).alloc (Nat.le_refl _) _
  have cf := find_c g w hw
  rw [hi] at cf
  simp only [Option.getD_some, Option.isSome_some] at cf
  have ce : ∀ w, Calls Tryz.prog 60 #[.int .i64 k] w fun e w' => e = .returned (.int .i64 (elB k : Nat)) ∧ w' = w := fun w => elementBytes_c k w
  have cb : Calls Tryz.prog 69 #[.pointer (some ⟨hb, 0, none⟩), .int .i64 id] (W.alloc (.cells #[.int .i64 k, .bool false, .int .u64 0, .int .i64 0, .int .i64 0] 105)) fun e w' => e = .returned (.int .i64 bs.length) ∧ w' = (W.alloc (.cells #[.int .i64 k, .bool false, .int .u64 0, .int .i64 0, .int .i64 0] 105)) := bytes_c (g.below hB1) id _ hc
  have e1 := World.cell?_alloc_new W #[.int .i64 k, .bool false, .int .u64 0, .int .i64 0, .int .i64 0] 105
  have e0 : ¬ ((elB k : Nat) : Int) = 0 := by omega
  have hout : Hid (∀ m : Nat, Below W.heap.size W ((W.alloc (.cells #[.int .i64 k, .bool false, .int .u64 0, .int .i64 0, .int .i64 0] 105)).drewN m)) := fun m => ⟨hB1.os, hB1.tape, hB1.output, hB1.size, hB1.block⟩
  generalize ((elB k : Nat) : Int) = E at *
  generalize hnn : bs.length = nn at *
  have hsub : IntKind.i64.wrap ((nn : Int) - wd) = (nn : Int) - wd := by rw [IntKind.wrap_i64]; omega
  have hz : IntKind.i64.wrap (0 + off) = off := by rw [IntKind.wrap_i64]; omega
  have hd : (wd : Int) = 1 ∨ (wd : Int) = 2 ∨ (wd : Int) = 4 ∨ (wd : Int) = 8 := by omega
  clear hwd
  generalize ((wd : Nat) : Int) = d at *
  by_cases hlo : off < 0
  · rw [if_neg (by omega)]
    clear hz
    rcases hd with rfl | rfl | rfl | rfl
    all_goals (
      clear g ok hc hB1
      go_enter Tryz.func138, Tryz.ntmps138
      go_wp2_with (first | (go_at_call 68; (with_reducible refine cf.mono ?_); rintro e w' ⟨rfl, hw⟩; (have hw' := hw.symm); subst hw'; clear hw) | (go_at_call 60; (with_reducible refine (ce _).mono ?_); rintro e w' ⟨rfl, hw⟩; (have hw' := hw.symm); subst hw'; clear hw) | (go_at_call 69; (with_reducible refine cb.mono ?_); rintro e w' ⟨rfl, hw⟩; (have hw' := hw.symm); subst hw'; clear hw))
      go_ret3
      exact ⟨rfl, hout.out 0⟩)
  · by_cases hhi : off + d ≤ nn
    · rw [if_pos ⟨by omega, hhi⟩]
      have g1 : ¬ off > (nn : Int) - d := by omega
      clear hhi
      rcases hd with rfl | rfl | rfl | rfl
      all_goals (
        clear g ok hc hB1
        go_enter Tryz.func138, Tryz.ntmps138
        go_upto_region 13 with (first | (go_at_call 68; (with_reducible refine cf.mono ?_); rintro e w' ⟨rfl, hw⟩; (have hw' := hw.symm); subst hw'; clear hw) | (go_at_call 60; (with_reducible refine (ce _).mono ?_); rintro e w' ⟨rfl, hw⟩; (have hw' := hw.symm); subst hw'; clear hw) | (go_at_call 69; (with_reducible refine cb.mono ?_); rintro e w' ⟨rfl, hw⟩; (have hw' := hw.symm); subst hw'; clear hw))
        go_quiet (fail)
        go_wp2
        go_ret3
        exact ⟨rfl, hout.out _⟩)
    · rw [if_neg (by omega)]
      have g1 : off > (nn : Int) - d := by omega
      clear hhi hz
      rcases hd with rfl | rfl | rfl | rfl
      all_goals (
        clear g ok hc hB1
        go_enter Tryz.func138, Tryz.ntmps138
        go_wp2_with (first | (go_at_call 68; (with_reducible refine cf.mono ?_); rintro e w' ⟨rfl, hw⟩; (have hw' := hw.symm); subst hw'; clear hw) | (go_at_call 60; (with_reducible refine (ce _).mono ?_); rintro e w' ⟨rfl, hw⟩; (have hw' := hw.symm); subst hw'; clear hw) | (go_at_call 69; (with_reducible refine cb.mono ?_); rintro e w' ⟨rfl, hw⟩; (have hw' := hw.symm); subst hw'; clear hw))
        go_ret3
        exact ⟨rfl, hout.out 0⟩)
end
end Go.Proofs.YtikgicepdalfpaaGreat.W
/- casketlaw7's plain; plain values. -/
namespace Go.Proofs.YtikgicepdalfpaaGreat.W
open Go.ChangeShapes Go.WideShapes Go.RowKit Go.Shelf
set_option linter.unusedVariables false
/-- a right value that is no thing -/
def PV (kd i bi re : Int) (t : ByteArray) : Prop := (kd = 0 ∧ i = 0 ∧ bi = 0 ∧ t = ⟨#[]⟩ ∧ re = 0) ∨ (kd = 1 ∧ (i = 0 ∨ i = 1) ∧ bi = 0 ∧ t = ⟨#[]⟩ ∧ re = 0) ∨ (kd = 2 ∧ bi = 0 ∧ t = ⟨#[]⟩ ∧ re = 0) ∨ (kd = 3 ∧ i = 0 ∧ t = ⟨#[]⟩ ∧ re = 0) ∨ (kd = 4 ∧ i = 0 ∧ bi = 0 ∧ re = 0)
theorem toList_nil (t : ByteArray) : t.toList = [] ↔ t = ⟨#[]⟩ := by
  rw [Go.ByteArray.toList_eq]
  constructor
  · intro h
    obtain ⟨d⟩ := t
    simp at h
    rw [h]
  · rintro rfl; rfl
end Go.Proofs.YtikgicepdalfpaaGreat.W
/- Contracts of package word's FromText and of the statements' awake. -/
namespace Go.Proofs.YtikgicepdalfpaaGreat.W
open Go.ChangeShapes Go.WideShapes Go.RowKit

theorem take_snoc (s : ByteArray) (k : Nat) (h : k < s.size) : s.data.toList.take (k + 1) = s.data.toList.take k ++ [s[k]] := by
  rw [List.take_succ_eq_append_getElem (by simpa using h)]; rfl
theorem pow8 (k : Nat) : 2 ^ (8 * k) = 256 ^ k := by rw [Nat.pow_mul]
theorem pow_lt5 (k : Nat) (h : k ≤ 5) : 256 ^ k ≤ 1099511627776 := by
  have := Nat.pow_le_pow_right (n := 256) (by decide) h
  have e : 256 ^ 5 = 1099511627776 := by decide
  omega
theorem or_byte (z k b e : Nat) (hz : z ≤ 5) (hk : k < 5) (he : e < 256 ^ k) (hb : b < 256) :
    bits .or .u64 ((z : Int) * 1099511627776 + (e : Int)) (IntKind.u64.wrap (IntKind.u64.wrap (b : Int) * 2 ^ (8 * k))) = (z : Int) * 1099511627776 + ((e + b * 256 ^ k : Nat) : Int) := by
  have e1 : IntKind.u64.wrap (b : Int) = b := by rw [IntKind.wrap_u64]; omega
  have hp := pow_lt5 (k + 1) (by omega)
  rw [Nat.pow_succ] at hp
  have hbk : b * 256 ^ k ≤ 255 * 256 ^ k := Nat.mul_le_mul_right _ (by omega)
  have e2 : (b : Int) * 2 ^ (8 * k) = ((b * 256 ^ k : Nat) : Int) := by rw [← pow8]; simp
  have e3 : IntKind.u64.wrap ((b * 256 ^ k : Nat) : Int) = ((b * 256 ^ k : Nat) : Int) := by rw [IntKind.wrap_u64]; exact Int.emod_eq_of_lt (Int.natCast_nonneg _) (by omega)
  have e4 : (z : Int) * 1099511627776 + (e : Int) = ((z * 1099511627776 + e : Nat) : Int) := by omega
  rw [e1, e2, e3, e4, u64_or_nat _ _ (by omega) (by omega)]
  have j1 : z * 1099511627776 + e = z * 1099511627776 ||| e := (nat_join 40 _ _ (by omega) (by omega)).symm
  have j2 : e ||| b * 256 ^ k = b * 256 ^ k + e := by
    rw [Nat.or_comm, ← pow8]
    exact nat_join (8 * k) _ _ (Nat.mul_mod_left _ _) (by rw [pow8]; exact he)
  rw [j1, Nat.or_assoc, j2, nat_join 40 _ _ (by omega) (by omega)]
  omega
theorem enc_step (s : ByteArray) (k : Nat) (hs : s.size ≤ 5) (h : k < s.size) :
    bits .or .u64 ((s.size : Int) * 1099511627776 + (encN (s.data.toList.take k) : Int)) (IntKind.u64.wrap (IntKind.u64.wrap (s[k].toNat : Int) * 2 ^ (8 * k))) = (s.size : Int) * 1099511627776 + (encN (s.data.toList.take (k + 1)) : Int) := by
  have hl : (s.data.toList.take k).length = k := by
    have : k < s.data.toList.length := by simpa using h
    rw [List.length_take]; omega
  have he := encN_lt (s.data.toList.take k)
  rw [take_snoc s k h, encN_snoc]
  rw [hl] at he ⊢
  exact or_byte s.size k s[k].toNat _ hs (by omega) he s[k].toNat_lt
theorem enc_all (s : ByteArray) (k : Nat) (h : ¬ k < s.size) : s.data.toList.take k = s.data.toList := List.take_of_length_le (by simp; omega)
theorem enc_lt (s : ByteArray) (hs : s.size ≤ 5) : (s.size : Int) * 1099511627776 + (encN s.data.toList : Int) < 281474976710656 := by
  have he := encN_lt s.data.toList
  have hl : s.data.toList.length = s.size := by simp
  rw [hl] at he
  have := pow_lt5 s.size hs
  omega
set_option maxHeartbeats 400000 in
theorem fromText_c (s : ByteArray) (hs : s.size ≤ maxLen) (w : World) :
    Calls Tryz.prog 42 #[.string s] w fun e w' => e = .returned (.tuple #[.int .u64 (txtW s), .bool (decide (s.size ≤ 5))]) ∧ w' = w := by
  unfold maxLen at hs
  by_cases c : s.size ≤ 5
  · have H := hid (show txtW s = 18445055223849287680 + s.size * 1099511627776 + encN s.data.toList by simp [txtW, c])
    go_enter Tryz.func42, Tryz.ntmps42
    go_wp2
    go_loop [4, 15] (fun l i => ∃ k : Nat, k ≤ s.size ∧ i = .int .i64 k ∧ l = .int .u64 (s.size * 1099511627776 + encN (s.data.toList.take k))) (fun _ i => s.size - (intOf i).toNat)
    case atStart => exact ⟨0, Nat.zero_le _, rfl, int_eq (by simp [encN])⟩
    case round =>
      obtain ⟨k, hk, rfl, rfl⟩ := hrel
      by_cases hlt : k < s.size
      · go_wp2
        go_round
        case rel => exact ⟨k + 1, hlt, by go_num, int_eq (enc_step s k c hlt)⟩
        case measure => simp [intOf]; omega
      · have hb := enc_lt s c
        have he := enc_all s k hlt
        rw [he]
        clear he
        go_wp2_with (go_at_call 39; refine (join_c _ _ (by omega) (by omega) (by omega) (by omega) _).mono ?_; rintro e w' ⟨rfl, rfl⟩)
        go_ret2
        exact ⟨ret_ib (by rw [H.out]; omega) (by simpa using c), rfl⟩
  · have H := hid (show txtW s = 0 by simp [txtW, c])
    go_enter Tryz.func42, Tryz.ntmps42
    go_wp2
    go_ret2
    exact ⟨ret_ib H.out.symm (by simpa using c), rfl⟩
theorem txtW_ab : txtW ⟨#[97, 98]⟩ = 18445057422872568417 := by decide
end Go.Proofs.YtikgicepdalfpaaGreat.W
/- What each class says of a pattern, as numbers. -/
namespace Go.Proofs.YtikgicepdalfpaaGreat.W

/-- what each class says of a pattern, as numbers -/
theorem cls_is1 (n : Int) (h : cls n = 1) : n % 9223372036854775808 ≤ 9218868437227405312 ∨ n = 9221120237041090560 := by
  unfold cls at h
  split at h
  · rename_i c
    rcases c with c | c
    · left; unfold nanB at c; simp at c; exact c
    · right; exact c
  · exfalso; revert h; repeat' (first | split | simp)
theorem cls_is3 (n : Int) (h : cls n = 3) : n = 18444492273895866368 := by
  unfold cls at h
  (repeat' split at h) <;> first | assumption | (exfalso; revert h; decide)
theorem cls_is4 (n : Int) (h : cls n = 4) : n = 18444492273895866369 ∨ n = 18444492273895866370 := by
  unfold cls at h
  (repeat' split at h) <;> first | assumption | (exfalso; revert h; decide)
theorem cls_is2 (n : Int) (h : cls n = 2) : 18444773748872577024 ≤ n ∧ n < 18445055223849287680 := by
  unfold cls at h
  (repeat' split at h) <;> first | (exfalso; revert h; decide) | omega
theorem cls_is5 (n : Int) (h : cls n = 5) : 18445055223849287680 ≤ n ∧ n < 18445336698825998336 ∧ txtOk (n % 281474976710656) = true := by
  unfold cls at h
  (repeat' split at h) <;> first | (exfalso; revert h; decide) | exact ⟨by omega, by omega, by assumption⟩
theorem cls_is6 (n : Int) (h : cls n = 6) : 18445336698825998336 ≤ n ∧ n < 18445618173802708992 := by
  unfold cls at h
  (repeat' split at h) <;> first | (exfalso; revert h; decide) | omega
theorem cls_is7 (n : Int) (h : cls n = 7) : 9218868437227405312 < n % 9223372036854775808 := by
  unfold cls at h
  split at h
  · exfalso; revert h; decide
  · rename_i c
    have : ¬ nanB n = false := fun x => c (.inl x)
    simp [nanB] at this
    exact this

end Go.Proofs.YtikgicepdalfpaaGreat.W
/- Plain facts on what is put into a word and comes out of it: no Go in sight. -/
namespace Go.Proofs.YtikgicepdalfpaaGreat.W

theorem cls_mk2 (n : Int) (a : 18444773748872577024 ≤ n) (b : n < 18445055223849287680) : cls n = 2 := cls_t1 n (by omega) (by omega) (by omega)
theorem cls_mk6 (n : Int) (a : 18445336698825998336 ≤ n) (b : n < 18445618173802708992) : cls n = 6 := cls_t3 n (by omega) (by omega) (by omega)
theorem intW_bd (i : Int) (h : smallB i = true) : 18444773748872577024 ≤ intW i ∧ intW i < 18445055223849287680 := by
  simp only [intW, h, if_true]; omega
theorem intW_cls (i : Int) (h : smallB i = true) : cls (intW i) = 2 := by
  have := intW_bd i h
  exact cls_mk2 _ this.1 this.2
theorem toInt_intW (i : Int) (h : smallB i = true) : toInt (intW i) = i := by
  have hc := intW_cls i h
  simp only [toInt, hc, if_true]
  have hs := h
  simp only [smallB, decide_eq_true_eq] at hs
  simp only [intW, h, if_true]
  split <;> omega
theorem hdlW_cls (h : Int) (h0 : 0 ≤ h) (h1 : h < 281474976710656) : cls (hdlW h) = 6 := by
  simp only [hdlW, if_pos h1]
  exact cls_mk6 _ (by omega) (by omega)
theorem toHdl_hdlW (h : Int) (h0 : 0 ≤ h) (h1 : h < 281474976710656) : toHdl (hdlW h) = h := by
  unfold toHdl
  rw [if_pos (hdlW_cls h h0 h1)]
  simp only [hdlW, if_pos h1]
  omega
theorem fltW_bd (n : Int) (h0 : 0 ≤ n) (h1 : n < 18446744073709551616) : 0 ≤ fltW n ∧ fltW n < 18446744073709551616 := by
  unfold fltW; split <;> omega
theorem fltW_cls (n : Int) : cls (fltW n) = 1 := by
  unfold fltW
  split
  · exact cls_canon
  · rename_i h
    exact cls_dbl n (by simpa using h)
theorem fltW_fltW (n : Int) : fltW (fltW n) = fltW n := by
  cases h : nanB n
  · have e : fltW n = n := by simp [fltW, h]
    rw [e, e]
  · have e : fltW n = 9221120237041090560 := by simp [fltW, h]
    rw [e]; decide
theorem back1 (n : Int) (h : cls n = 1) : fltW n = n := by
  rcases cls_is1 n h with c | c
  · have : nanB n = false := by simp [nanB]; omega
    simp [fltW, this]
  · subst c; decide
theorem back2 (n : Int) (h : cls n = 2) : intW (toInt n) = n ∧ smallB (toInt n) = true ∧ -140737488355328 ≤ toInt n ∧ toInt n ≤ 140737488355327 := by
  have hb := cls_is2 n h
  have hs : -140737488355328 ≤ toInt n ∧ toInt n ≤ 140737488355327 := by
    simp only [toInt, h, if_true]; split <;> omega
  have hs' : smallB (toInt n) = true := by simp only [smallB, decide_eq_true_eq]; exact hs
  refine ⟨?_, hs', hs.1, hs.2⟩
  simp only [intW, hs', if_true]
  simp only [toInt, h, if_true]
  split <;> omega
theorem back4 (n : Int) (h : cls n = 4) : boolW (toBool n) = n := by
  rcases cls_is4 n h with c | c <;> subst c <;> decide
theorem back6 (n : Int) (h : cls n = 6) : hdlW (toHdl n) = n ∧ 0 ≤ toHdl n ∧ toHdl n < 281474976710656 := by
  have hb := cls_is6 n h
  have hs : 0 ≤ toHdl n ∧ toHdl n < 281474976710656 := by simp only [toHdl, h, if_true]; omega
  refine ⟨?_, hs⟩
  simp only [hdlW, if_pos hs.2]
  simp only [toHdl, h, if_true]
  omega
theorem back7 (n : Int) (h : cls n = 7) : fltW n = 9221120237041090560 := by
  have := cls_is7 n h
  have hn : nanB n = true := by simp [nanB]; omega
  simp [fltW, hn]
theorem txtW_rest (s : ByteArray) (h : s.size ≤ 5) : txtW s % 281474976710656 / 1099511627776 = s.size ∧ txtW s % 1099511627776 = encN s.data.toList := by
  have he := encN_lt s.data.toList
  have hl : s.data.toList.length = s.size := by simp
  rw [hl] at he
  have := pow_lt5 s.size h
  simp only [txtW, if_pos h]
  omega
theorem txtW_cls (s : ByteArray) (h : s.size ≤ 5) : cls (txtW s) = 5 := by
  have he := encN_lt s.data.toList
  have hl : s.data.toList.length = s.size := by simp
  rw [hl] at he
  have hp := pow_lt5 s.size h
  obtain ⟨r1, r2⟩ := txtW_rest s h
  have hb : 18445055223849287680 ≤ txtW s ∧ txtW s < 18445336698825998336 := by
    have := enc_lt s h
    simp only [txtW, if_pos h]; omega
  rw [cls_t2 (txtW s) (by omega) (by omega) (by omega)]
  unfold textCls
  rw [if_pos]
  simp only [txtOk, decide_eq_true_eq]
  have e : txtW s % 281474976710656 % 1099511627776 = txtW s % 1099511627776 := by omega
  rw [r1, e, r2]
  refine ⟨by omega, ?_⟩
  have e8 : (8 * (s.size : Int)).toNat = 8 * s.size := by omega
  rw [e8]
  have e2 : (2 : Int) ^ (8 * s.size) = ((256 ^ s.size : Nat) : Int) := by rw [← pow8]; simp
  rw [e2]
  omega
theorem toTxt_txtW (s : ByteArray) (h : s.size ≤ 5) : toTxt (txtW s) = s := by
  obtain ⟨r1, r2⟩ := txtW_rest s h
  simp only [toTxt, txtW_cls s h, if_true]
  rw [r1, r2, Int.toNat_natCast, Int.toNat_natCast]
  have hl : s.data.toList.length = s.size := by simp
  rw [← hl, decN_encN]
theorem back5 (n : Int) (h : cls n = 5) : txtW (toTxt n) = n ∧ (toTxt n).size ≤ 5 := by
  obtain ⟨h1, h2, h3⟩ := cls_is5 n h
  simp only [txtOk, decide_eq_true_eq] at h3
  obtain ⟨k5, hr⟩ := h3
  obtain ⟨k, hk⟩ : ∃ k : Nat, n % 281474976710656 / 1099511627776 = k := Int.eq_ofNat_of_zero_le (by omega)
  obtain ⟨r, hr'⟩ : ∃ r : Nat, n % 1099511627776 = r := Int.eq_ofNat_of_zero_le (by omega)
  have e : n % 281474976710656 % 1099511627776 = r := by omega
  rw [hk, e] at hr
  rw [hk] at k5
  have e8 : (8 * (k : Int)).toNat = 8 * k := by omega
  have e2 : (2 : Int) ^ (8 * k) = ((256 ^ k : Nat) : Int) := by rw [← pow8]; simp
  rw [e8, e2] at hr
  have ht : toTxt n = ⟨(decN k r).toArray⟩ := by simp only [toTxt, h, if_true, hk, hr', Int.toNat_natCast]
  have hsz : (toTxt n).size = k := by rw [ht]; simp [ByteArray.size, decN_length]
  refine ⟨?_, by omega⟩
  have hd : encN (toTxt n).data.toList = r := by
    rw [ht]
    simp only
    exact encN_decN k r (by omega)
  simp only [txtW, hsz, hd]
  rw [if_pos (by omega)]
  omega
end Go.Proofs.YtikgicepdalfpaaGreat.W
/- Chains of rows, in plain words. -/
namespace Go.Proofs.YtikgicepdalfpaaGreat.W
open Go.ChangeShapes Go.WideShapes Go.RowKit Go.Shelf
set_option linter.unusedVariables false
/-- the word of handle i -/
def hw (i : Nat) : Nat := 18445336698825998336 + i
theorem cls_hw (i : Nat) (h : i < 281474976710656) : cls ((hw i : Nat) : Int) = 6 := by
  unfold hw
  exact cls_t3 _ (by omega) (by omega) (by omega)
theorem hw_mod (i : Nat) (h : i < 281474976710656) : hw i % 281474976710656 = i := by unfold hw; omega
theorem hw_lt (i : Nat) (h : i < 281474976710656) : hw i < 18446744073709551616 := by unfold hw; omega
theorem hit_hw {H : List (Option Hc)} {i : Nat} {c : Hc} (hi : i < 281474976710656) (h : H[i]? = some (some c)) : hit H (hw i) = some i := by
  unfold hit
  rw [hw_mod i hi, h]
  rw [if_pos ⟨cls_hw i hi, rfl⟩]
theorem hit_low {H : List (Option Hc)} {w : Nat} (h : cls (w : Int) ≠ 6) : hit H w = none := by
  unfold hit
  rw [if_neg (fun e => h e.1)]
theorem hit_zero (H : List (Option Hc)) : hit H 0 = none := hit_low (by decide)
theorem isVal_hw {H : List (Option Hc)} {i : Nat} {c : Hc} (hi : i < 281474976710656) (h : H[i]? = some (some c)) : isVal H (hw i) = true := by
  unfold isVal
  rw [cls_hw i hi, if_neg (by decide), if_pos rfl, hit_hw hi h]; rfl
theorem isVal_zero (H : List (Option Hc)) : isVal H 0 = true := by
  have e : cls ((0 : Nat) : Int) = 1 := by decide
  unfold isVal
  rw [e, if_neg (by decide), if_neg (by decide)]
/-- where all are reached -/
theorem zip_all {H : List (Option Hc)} {ws : List Nat} (h : ∀ i c, H[i]? = some (some c) → Rch H ws i) : zipK H (rchB H ws) = H := by
  apply List.ext_getElem?
  intro i
  by_cases hi : i < H.length
  · rw [zipK_get H _ (rchB_len H ws) i hi]
    have e : H[i]? = some H[i] := List.getElem?_eq_getElem hi
    cases hx : H[i] with
    | none =>
      rw [e, hx]
      split <;> rfl
    | some c =>
      rw [hx] at e
      have hr := (rchB_get H ws i).2 (h i c e)
      have : (rchB H ws).getD i false = true := by rw [List.getD_eq_getElem?_getD, hr]; rfl
      rw [if_pos this, e]
  · rw [List.getElem?_eq_none (by rw [zipK_len _ _ (rchB_len H ws)]; omega), List.getElem?_eq_none (by omega)]
/-- where none is -/
theorem zip_none {H : List (Option Hc)} {ws : List Nat} (h : ∀ w ∈ ws, hit H w = none) : zipK H (rchB H ws) = List.replicate H.length none := by
  have hno : ∀ i, ¬ Rch H ws i := by
    intro i hr
    induction hr with
    | root w i hw hh => rw [h w hw] at hh; cases hh
    | step j i w c _ _ _ _ ih => exact ih
  apply List.ext_getElem?
  intro i
  by_cases hi : i < H.length
  · rw [zipK_get H _ (rchB_len H ws) i hi, List.getElem?_replicate, if_pos hi]
    have : ¬ (rchB H ws).getD i false = true := by
      intro e
      rw [List.getD_eq_getElem?_getD] at e
      have h2 : (rchB H ws)[i]? = some true := by
        cases hx : (rchB H ws)[i]? with
        | none => rw [hx] at e; cases e
        | some b => rw [hx] at e; simp at e; rw [e]
      exact hno i ((rchB_get H ws i).1 h2)
    rw [if_neg this]
  · rw [List.getElem?_eq_none (by rw [zipK_len _ _ (rchB_len H ws)]; omega), List.getElem?_eq_none (by simp; omega)]
theorem sum_none (n : Nat) : sumH (List.replicate n none) = 0 := by
  induction n with
  | zero => rfl
  | succ n ih => rw [List.replicate_succ, sumH_cons, ih]; rfl
theorem row_need (ws : List Nat) : (Hc.row ws).need = 1 + ws.length := by
  unfold Hc.need
  rw [show (Hc.row ws).bytes.length = 8 * ws.length from row_len ws]
  omega
/-- the end of a chain of n rows -/
def endW : Nat → Nat
  | 0 => 0
  | n + 1 => hw n
/-- a chain of n rows -/
def chain : Nat → List (Option Hc)
  | 0 => []
  | n + 1 => chain n ++ [some (.row [endW n])]
theorem chain_len (n : Nat) : (chain n).length = n := by
  induction n with
  | zero => rfl
  | succ n ih => show (chain n ++ _).length = _; rw [List.length_append, ih]; rfl
theorem chain_get (n i : Nat) (h : i < n) : (chain n)[i]? = some (some (.row [endW i])) := by
  induction n with
  | zero => omega
  | succ n ih =>
    show (chain n ++ _)[i]? = _
    by_cases c : i < n
    · rw [List.getElem?_append_left (by rw [chain_len]; exact c), ih c]
    · have e : i = n := by omega
      subst e
      rw [List.getElem?_append_right (by rw [chain_len]; omega), chain_len]
      simp
theorem chain_sum (n : Nat) : sumH (chain n) = 2 * n := by
  induction n with
  | zero => rfl
  | succ n ih =>
    show sumH (chain n ++ _) = _
    rw [sumH_snoc, ih]
    show 2 * n + (Hc.row [endW n]).need = _
    rw [row_need]; simp; omega
theorem lid_full {H : List (Option Hc)} (h : ∀ i, i < H.length → ∃ c, H[i]? = some (some c)) : lid H = H.length := by
  have h1 := lid_le H
  by_cases c : lid H < H.length
  · obtain ⟨x, hx⟩ := h _ c
    rw [lid_free c] at hx
    cases hx
  · omega
theorem chain_lid (n : Nat) : lid (chain n) = n := by
  rw [lid_full (fun i hi => ⟨_, chain_get n i (by rw [chain_len] at hi; exact hi)⟩), chain_len]
theorem chain_put (n : Nat) : putH (chain n) (lid (chain n)) (some (.row [endW n])) = chain (n + 1) := by
  rw [chain_lid]
  unfold putH
  rw [if_neg (by rw [chain_len]; omega)]
  rfl
theorem endW_lt (n : Nat) (h : n ≤ 100000) : endW n < 18446744073709551616 := by
  cases n with
  | zero => show 0 < _; omega
  | succ n => exact hw_lt n (by omega)
theorem chain_val (n : Nat) (h : n ≤ 100000) : isVal (chain n) (endW n) = true := by
  cases n with
  | zero => exact isVal_zero _
  | succ n => exact isVal_hw (by omega) (chain_get (n + 1) n (by omega))
theorem chain_rch (n : Nat) (h : n ≤ 100000) (rs : List Nat) : ∀ j, j < n → Rch (chain n) ([endW n] ++ rs) (n - 1 - j) := by
  intro j
  induction j with
  | zero =>
    intro hj
    cases n with
    | zero => omega
    | succ n => exact .root (hw n) n (by simp [endW]) (hit_hw (by omega) (chain_get (n + 1) n (by omega)))
  | succ j ih =>
    intro hj
    have h1 := ih (by omega)
    obtain ⟨k, hk⟩ : ∃ k, n - 1 - j = k + 1 := ⟨n - 1 - j - 1, by omega⟩
    rw [hk] at h1
    have e : n - 1 - (j + 1) = k := by omega
    rw [e]
    exact .step (k + 1) k (hw k) (.row [endW (k + 1)]) h1 (chain_get n (k + 1) (by omega)) (by simp [Hc.succ, endW]) (hit_hw (by omega) (chain_get n k (by omega)))
theorem chain_zip (n : Nat) (h : n ≤ 100000) (rs : List Nat) : zipK (chain n) (rchB (chain n) ([endW n] ++ rs)) = chain n := by
  refine zip_all (fun i c hc => ?_)
  have hi : i < n := by have := (List.getElem?_eq_some_iff.1 hc).1; rw [chain_len] at this; exact this
  have := chain_rch n h rs (n - 1 - i) (by omega)
  rwa [show n - 1 - (n - 1 - i) = i by omega] at this
theorem chain_reach (n : Nat) (h : n ≤ 100000) : reachN (chain n) [endW n] = 2 * n := by
  have := chain_zip n h []
  rw [List.append_nil] at this
  unfold reachN
  rw [← zipK_sum, this, chain_sum]
end Go.Proofs.YtikgicepdalfpaaGreat.W
/- A heap that a statement made itself: what Put and Reach do to it. -/
namespace Go.Proofs.YtikgicepdalfpaaGreat.W
open Go.ChangeShapes Go.WideShapes Go.RowKit Go.Shelf
set_option linter.unusedVariables false
/-- a heap that was made behind W0 -/
def Hs (W0 W : World) (hb : Nat) (H : List (Option Hc)) (u : Nat) : Prop := Below W0.heap.size W0 W ∧ HSt W (fun k => W0.heap.size ≤ k ∧ k < W.heap.size) hb H u
section
variable {W0 W W1 W' : World} {hb : Nat} {H : List (Option Hc)} {u : Nat}
theorem Hs.bel (q : Hs W0 W hb H u) : Below W0.heap.size W0 W := q.1
theorem Hs.below (q : Hs W0 W hb H u) (hB : Below W.heap.size W W') : Hs W0 W' hb H u := by
  have h1 := q.1.size
  have h2 := hB.size
  exact ⟨q.1.trans (hB.mono h1), (q.2.below hB).mono (fun k e => ⟨e.1, by omega⟩)⟩
theorem hs_new (hB : Below W0.heap.size W0 W) (u : Nat) (hu : u ≤ 1048576) : Calls Tryz.prog 4 #[.int .i64 u] W fun e w' => ∃ hb, e = .returned (.tuple #[.pointer (some ⟨hb, 0, none⟩), .int .i64 0]) ∧ Hs W0 w' hb [] u := by
  refine (hnew_c u hu W).mono ?_
  rintro e w' ⟨hb, rfl, hB', g⟩
  have h1 := hB.size
  exact ⟨hb, rfl, hB.trans (hB'.mono h1), g.mono (fun k e => ⟨by omega, e.2⟩)⟩
theorem Hs.upd {H' : List (Option Hc)} (q : Hs W0 W hb H u) (hB : Below W.heap.size W W1) (hU : Upd (fun k => W0.heap.size ≤ k ∧ k < W.heap.size) W1 W') (g : HSt W' (Nx (fun k => W0.heap.size ≤ k ∧ k < W.heap.size) W1 W') hb H' u) : Hs W0 W' hb H' u := by
  have h1 := q.1.size
  have h2 := hB.size
  have h3 := hU.size
  have b1 : Below W0.heap.size W1 W' := hU.below (by omega) (fun k e => e.1)
  refine ⟨(q.1.trans (hB.mono h1)).trans b1, g.mono ?_⟩
  rintro k (e | e)
  · exact ⟨e.1, by omega⟩
  · exact ⟨by omega, e.2⟩
/-- what Put answers and leaves -/
def HsPost (W0 : World) (hb : Nat) (H1 : List (Option Hc)) (u : Nat) (c : Hc) (e : Ending) (w' : World) : Prop := (sumH H1 + c.need ≤ u ∧ e = .returned (.tuple #[.int .u64 (hw (lid H1) : Nat), .int .i64 0]) ∧ Hs W0 w' hb (putH H1 (lid H1) (some c)) u) ∨ (u < sumH H1 + c.need ∧ e = .returned (.tuple #[.int .u64 0, .int .i64 40]) ∧ Hs W0 w' hb H1 u)
theorem HsPost.fits {c : Hc} {rs : List Nat} {e : Ending} (h : HsPost W0 hb (roomH H u c rs) u c e W') (hf : sumH H + c.need ≤ u) : e = .returned (.tuple #[.int .u64 (hw (lid H) : Nat), .int .i64 0]) ∧ Hs W0 W' hb (putH H (lid H) (some c)) u := by
  have hr : roomH H u c rs = H := by unfold roomH; rw [if_pos hf]
  rw [hr] at h
  rcases h with ⟨_, h2, h3⟩ | ⟨h2, _⟩
  · exact ⟨h2, h3⟩
  · omega
theorem HsPost.not {c : Hc} {H1 : List (Option Hc)} {e : Ending} (h : HsPost W0 hb H1 u c e W') (hf : u < sumH H1 + c.need) : e = .returned (.tuple #[.int .u64 0, .int .i64 40]) ∧ Hs W0 W' hb H1 u := by
  rcases h with ⟨h2, _⟩ | ⟨_, h2, h3⟩
  · omega
  · exact ⟨h2, h3⟩
theorem HsPost.yes {c : Hc} {H1 : List (Option Hc)} {e : Ending} (h : HsPost W0 hb H1 u c e W') (hf : sumH H1 + c.need ≤ u) : e = .returned (.tuple #[.int .u64 (hw (lid H1) : Nat), .int .i64 0]) ∧ Hs W0 W' hb (putH H1 (lid H1) (some c)) u := by
  rcases h with ⟨_, h2, h3⟩ | ⟨h2, _⟩
  · exact ⟨h2, h3⟩
  · omega
theorem Hs.post {c : Hc} {H1 : List (Option Hc)} {e : Ending} (q : Hs W0 W hb H u) (hB : Below W.heap.size W W1) (h : PutPost W1 (fun k => W0.heap.size ≤ k ∧ k < W.heap.size) hb H1 u c e W') : HsPost W0 hb H1 u c e W' := by
  obtain ⟨hU, ⟨a, b, c⟩ | ⟨a, b, c⟩⟩ := h
  · exact .inl ⟨a, b, q.upd hB hU c⟩
  · exact .inr ⟨a, b, q.upd hB hU c⟩
theorem hs_row (q : Hs W0 W hb H u) (hB : Below W.heap.size W W1) (ws : List Nat) (hl : ws.length ≤ 1048576) (hv64 : ∀ w ∈ ws, w < 18446744073709551616) (hval : ∀ w ∈ ws, isVal H w = true) (ow : Option Addr) (wc : Nat) (hv : WordsAt W1 (.slice ow ws.length wc) ws) (ho : ∀ x, ow = some x → W.heap.size ≤ x.block ∧ x.block < W1.heap.size) (vr : Value) (rs : List Nat) (hr : WordsAt W1 vr rs) :
    Calls Tryz.prog 15 #[.pointer (some ⟨hb, 0, none⟩), .agg #[.int .i64 9, .bool false, .int .i64 0, .string ⟨#[]⟩, .slice none 0 0, .slice ow ws.length wc, .int .u64 0, .int .i64 0, .int .i64 0], vr] W1 (HsPost W0 hb (roomH H u (.row ws) rs) u (.row ws)) := by
  have h2 := hB.size
  refine (put_row (q.2.below hB) (fun k e => by omega) ws hl hv64 hval none ow 0 wc hv ?_ vr rs hr).mono (fun e w' h => q.post hB h)
  intro o n cap e k
  cases e
  have := ho o rfl
  rcases k with k | k <;> omega
theorem hs_num (q : Hs W0 W hb H u) (hB : Below W.heap.size W W1) (i : Int) (h0 : -9223372036854775808 ≤ i) (h1 : i < 9223372036854775808) (vr : Value) (rs : List Nat) (hr : WordsAt W1 vr rs) :
    Calls Tryz.prog 15 #[.pointer (some ⟨hb, 0, none⟩), .agg #[.int .i64 2, .bool false, .int .i64 i, .string ⟨#[]⟩, .slice none 0 0, .slice none 0 0, .int .u64 0, .int .i64 0, .int .i64 0], vr] W1 (HsPost W0 hb (roomH H u (.num i) rs) u (.num i)) := by
  have h2 := hB.size
  exact (put_num (q.2.below hB) (fun k e => by omega) i h0 h1 none none 0 0 vr rs hr).mono (fun e w' h => q.post hB h)
end
theorem infoU : (Tryz.prog.info? 22).map (fun i => (i.zero, i.size, i.bytes)) = some (some (.int .u64 0), 1, 8) := by kernel_rfl
theorem underU : Tryz.prog.underlying 27 = some (.slice 22) := by kernel_rfl
theorem make_words (w : World) (n : Nat) (hn : n ≤ 1048576) : ∃ w', (Instr.makeSlice 27 (.int .i64 (n : Int)) (.int .i64 (n : Int))).run Tryz.prog w = .ok (.slice (some ⟨w.heap.size, 0, none⟩) n n) w' ∧ WordsAt w' (.slice (some ⟨w.heap.size, 0, none⟩) n n) (List.replicate n 0) ∧ Below w.heap.size w w' ∧ w.heap.size < w'.heap.size := by
  obtain ⟨i0, hi, hz0, hz1, hz2⟩ := info_parts infoU
  obtain ⟨w', h1, h2, h3⟩ := run_makeSlice_full (P := Tryz.prog) w w.heap.size 27 22 i0 (.int .u64 0) 1 underU hi hz0 hz1 .i64 .i64 n (by omega) (by rw [hz2]; omega) (by simp [maxLen]; omega) (Nat.le_refl _)
  have e : (madeCells (Value.int .u64 0).cells (n * 1)).toList = List.replicate n (.int .u64 0) := by
    rw [Nat.mul_one]; exact made_one _ n
  rw [e] at h2
  have hU : Upd (fun _ => False) w w' := (Upd.refl (fun _ => False) w).grown h3 (fun k e => by cases e)
  have hlt := (h2.lt _ rfl).2
  refine ⟨w', h1, ⟨_, _, by rw [List.length_replicate], by rw [List.length_replicate]; omega, ?_, ?_⟩, hU.below (Nat.le_refl _) (fun k e => e.elim), hlt⟩
  · intro x hx
    rw [(List.mem_replicate.1 hx).2]; omega
  · intro i hi
    rw [List.length_replicate] at hi
    refine ⟨_, rfl, ?_⟩
    have e1 : ((⟨w.heap.size, 0, none⟩ : Addr).add i) = ⟨w.heap.size, i, none⟩ := by unfold Addr.add; split <;> simp_all
    rw [e1, h2.cellAt i (by omega), List.getElem?_replicate, if_pos hi]
    simp
end Go.Proofs.YtikgicepdalfpaaGreat.W
/- Package value: Box, of plain values. -/
namespace Go.Proofs.YtikgicepdalfpaaGreat.W
open Go.ChangeShapes Go.WideShapes Go.RowKit Go.Shelf
set_option linter.unusedVariables false
theorem vright_c (kd i bi re : Int) (t : ByteArray) (h : PV kd i bi re t) (W : World) : Calls Tryz.prog 17 #[.agg #[.int .i64 kd, .int .i64 i, .int .u64 bi, .string t, .int .u64 re]] W fun e w' => e = .returned (.bool true) ∧ Below W.heap.size W w' := by
  rcases h with ⟨rfl, rfl, rfl, rfl, rfl⟩ | ⟨rfl, hi, rfl, rfl, rfl⟩ | ⟨rfl, rfl, rfl, rfl⟩ | ⟨rfl, rfl, rfl, rfl⟩ | ⟨rfl, rfl, rfl, rfl⟩
  · go_enter Tryz.func17, Tryz.ntmps17
    go_wp2
    go_ret
    exact ⟨rfl, ((Below.refl _ W).alloc (Nat.le_refl _) _).alloc (by simp) _⟩
  · rcases hi with rfl | rfl
    · go_enter Tryz.func17, Tryz.ntmps17
      go_wp2
      go_ret
      exact ⟨rfl, ((Below.refl _ W).alloc (Nat.le_refl _) _).alloc (by simp) _⟩
    · go_enter Tryz.func17, Tryz.ntmps17
      go_wp2
      go_ret
      exact ⟨rfl, ((Below.refl _ W).alloc (Nat.le_refl _) _).alloc (by simp) _⟩
  · go_enter Tryz.func17, Tryz.ntmps17
    go_wp2
    go_ret
    exact ⟨rfl, ((Below.refl _ W).alloc (Nat.le_refl _) _).alloc (by simp) _⟩
  · go_enter Tryz.func17, Tryz.ntmps17
    go_wp2
    go_ret
    exact ⟨rfl, ((Below.refl _ W).alloc (Nat.le_refl _) _).alloc (by simp) _⟩
  · go_enter Tryz.func17, Tryz.ntmps17
    go_wp2
    go_ret
    exact ⟨rfl, ((Below.refl _ W).alloc (Nat.le_refl _) _).alloc (by simp) _⟩
theorem boxInt_small (hp vr : Value) (i : Int) (h0 : -9223372036854775808 ≤ i) (h1 : i ≤ 9223372036854775807) (hs : smallB i = true) (W : World) : Calls Tryz.prog 20 #[hp, .int .i64 i, vr] W fun e w' => e = .returned (.tuple #[.int .u64 (intW i), .int .i64 0]) ∧ w' = W := by
  have cf := fromInt_c i h0 h1 W
  rw [hs] at cf
  go_enter Tryz.func20, Tryz.ntmps20
  go_wp2_with (go_at_call 40; (with_reducible refine cf.mono ?_); rintro e w' ⟨rfl, hw⟩; (have hw' := hw.symm); subst hw'; clear hw)
  go_ret2
  exact ⟨rfl, rfl⟩
theorem boxText_small (hp vr : Value) (t : ByteArray) (hs : t.size ≤ 5) (W : World) : Calls Tryz.prog 22 #[hp, .string t, vr] W fun e w' => e = .returned (.tuple #[.int .u64 (txtW t), .int .i64 0]) ∧ w' = W := by
  have cf := fromText_c t (by simp [maxLen]; omega) W
  rw [decide_eq_true hs] at cf
  have h1 : ¬ (t.size : Int) > 8388608 := by omega
  go_enter Tryz.func22, Tryz.ntmps22
  go_wp2_with (go_at_call 42; (with_reducible refine cf.mono ?_); rintro e w' ⟨rfl, hw⟩; (have hw' := hw.symm); subst hw'; clear hw)
  go_ret2
  exact ⟨rfl, rfl⟩
section
variable {W0 W W1 : World} {hb : Nat} {H : List (Option Hc)} {u : Nat}
theorem boxInt_big (q : Hs W0 W hb H u) (hB : Below W.heap.size W W1) (vr : Value) (rs : List Nat) (hr : WordsAt W1 vr rs) (i : Int) (h0 : -9223372036854775808 ≤ i) (h1 : i ≤ 9223372036854775807) (hs : smallB i = false) : Calls Tryz.prog 20 #[.pointer (some ⟨hb, 0, none⟩), .int .i64 i, vr] W1 (HsPost W0 hb (roomH H u (.num i) rs) u (.num i)) := by
  have cf := fromInt_c i h0 h1 W1
  rw [hs] at cf
  have cp := hs_num q hB i h0 (by omega) vr rs hr
  have ep : ∀ (e : Ending) (w : World), HsPost W0 hb (roomH H u (.num i) rs) u (.num i) e w → ∃ x y, e = .returned (.tuple #[.int .u64 x, .int .i64 y]) := by
    rintro e w (⟨_, rfl, _⟩ | ⟨_, rfl, _⟩) <;> exact ⟨_, _, rfl⟩
  go_enter Tryz.func20, Tryz.ntmps20
  go_wp2_with (first | (go_at_call 40; (with_reducible refine cf.mono ?_); rintro e w' ⟨rfl, hw⟩; (have hw' := hw.symm); subst hw'; clear hw) | (go_at_call 15; (with_reducible refine cp.mono ?_); intro e w2 hP; (obtain ⟨x, y, rfl⟩ := ep _ _ hP); clear cp))
  go_ret2
  exact hP
theorem hs_text (q : Hs W0 W hb H u) (hB : Below W.heap.size W W1) (t : ByteArray) (hl : t.size ≤ 8388608) (vr : Value) (rs : List Nat) (hr : WordsAt W1 vr rs) :
    Calls Tryz.prog 15 #[.pointer (some ⟨hb, 0, none⟩), .agg #[.int .i64 4, .bool false, .int .i64 0, .string t, .slice none 0 0, .slice none 0 0, .int .u64 0, .int .i64 0, .int .i64 0], vr] W1 (HsPost W0 hb (roomH H u (.text (strB t)) rs) u (.text (strB t))) := by
  have h2 := hB.size
  exact (put_text (q.2.below hB) (fun k e => by omega) t hl none none 0 0 vr rs hr).mono (fun e w' h => q.post hB h)
theorem boxText_big (q : Hs W0 W hb H u) (hB : Below W.heap.size W W1) (vr : Value) (rs : List Nat) (hr : WordsAt W1 vr rs) (t : ByteArray) (hl : t.size ≤ 8388608) (hs : ¬ t.size ≤ 5) : Calls Tryz.prog 22 #[.pointer (some ⟨hb, 0, none⟩), .string t, vr] W1 (HsPost W0 hb (roomH H u (.text (strB t)) rs) u (.text (strB t))) := by
  have cf := fromText_c t (by simp [maxLen]; omega) W1
  rw [decide_eq_false hs] at cf
  have h1 : ¬ (t.size : Int) > 8388608 := by omega
  have cp := hs_text q hB t hl vr rs hr
  have ep : ∀ (e : Ending) (w : World), HsPost W0 hb (roomH H u (.text (strB t)) rs) u (.text (strB t)) e w → ∃ x y, e = .returned (.tuple #[.int .u64 x, .int .i64 y]) := by
    rintro e w (⟨_, rfl, _⟩ | ⟨_, rfl, _⟩) <;> exact ⟨_, _, rfl⟩
  go_enter Tryz.func22, Tryz.ntmps22
  go_wp2_with (first | (go_at_call 42; (with_reducible refine cf.mono ?_); rintro e w' ⟨rfl, hw⟩; (have hw' := hw.symm); subst hw'; clear hw) | (go_at_call 15; (with_reducible refine cp.mono ?_); intro e w2 hP; (obtain ⟨x, y, rfl⟩ := ep _ _ hP); clear cp))
  go_ret2
  exact hP
end
end Go.Proofs.YtikgicepdalfpaaGreat.W
/- Package value: Box, Unbox. -/
namespace Go.Proofs.YtikgicepdalfpaaGreat.W
open Go.ChangeShapes Go.WideShapes Go.RowKit Go.Shelf
set_option linter.unusedVariables false
/-- behind right the value's box is as it was -/
theorem vbox (kd i bi re : Int) (t : ByteArray) (W : World) : ∀ w2, Below ((W.alloc (.cells #[.int .i64 kd, .int .i64 i, .int .u64 bi, .string t, .int .u64 re] 33))).heap.size (W.alloc (.cells #[.int .i64 kd, .int .i64 i, .int .u64 bi, .string t, .int .u64 re] 33)) w2 → (∀ j, w2.cell? ⟨W.heap.size, j, none⟩ = #[.int .i64 kd, .int .i64 i, .int .u64 bi, .string t, .int .u64 re][j]?) ∧ Below W.heap.size W w2 := by
  intro w2 hB2
  have hB1 : Below W.heap.size W (W.alloc (.cells #[.int .i64 kd, .int .i64 i, .int .u64 bi, .string t, .int .u64 re] 33)) := (Below.refl _ W).alloc (Nat.le_refl _) _
  have hs1 : ((W.alloc (.cells #[.int .i64 kd, .int .i64 i, .int .u64 bi, .string t, .int .u64 re] 33))).heap.size = W.heap.size + 1 := World.size_alloc ..
  refine ⟨fun j => ?_, hB1.trans (hB2.mono hB1.size)⟩
  rw [World.cell?_of_block (hB2.block W.heap.size (by omega))]
  exact World.cell?_alloc_new W #[.int .i64 kd, .int .i64 i, .int .u64 bi, .string t, .int .u64 re] 33 j
theorem box_nil (hp vr : Value) (W : World) : Calls Tryz.prog 6 #[hp, .agg #[.int .i64 0, .int .i64 0, .int .u64 0, .string ⟨#[]⟩, .int .u64 0], vr] W fun e w' => e = .returned (.tuple #[.int .u64 18444492273895866368, .int .i64 0]) ∧ Below W.heap.size W w' := by
  have cr := vright_c 0 0 0 0 ⟨#[]⟩ (.inl ⟨rfl, rfl, rfl, rfl, rfl⟩) (W.alloc (.cells #[.int .i64 0, .int .i64 0, .int .u64 0, .string ⟨#[]⟩, .int .u64 0] 33))
  have vb := hid (vbox 0 0 0 0 ⟨#[]⟩ W)
  go_enter Tryz.func6, Tryz.ntmps6
  go_wp2_with (first | (go_at_call 17; (with_reducible refine cr.mono ?_); rintro e w2 ⟨rfl, hB2⟩; clear cr; (obtain ⟨n9, hB⟩ := vb.out w2 hB2); (have m0 := n9 0); (have m1 := n9 1); (have m2 := n9 2); (have m3 := n9 3); clear n9; (simp only [List.getElem?_toArray, List.getElem?_cons_succ, List.getElem?_cons_zero] at m0 m1 m2 m3)) | (go_at_call 18; (with_reducible refine (fromNil_c _).mono ?_); rintro e w' ⟨rfl, hw⟩; (have hw' := hw.symm); subst hw'; clear hw))
  go_ret2
  exact ⟨rfl, hB⟩
theorem box_bool (hp vr : Value) (b : Bool) (i : Int) (hi : i = if b = true then 1 else 0) (W : World) : Calls Tryz.prog 6 #[hp, .agg #[.int .i64 1, .int .i64 i, .int .u64 0, .string ⟨#[]⟩, .int .u64 0], vr] W fun e w' => e = .returned (.tuple #[.int .u64 (boolW b), .int .i64 0]) ∧ Below W.heap.size W w' := by
  have cb := fun w => fromBool_c b w
  cases b
  · obtain rfl : i = 0 := hi
    have cr := vright_c 1 0 0 0 ⟨#[]⟩ (.inr (.inl ⟨rfl, .inl rfl, rfl, rfl, rfl⟩)) (W.alloc (.cells #[.int .i64 1, .int .i64 0, .int .u64 0, .string ⟨#[]⟩, .int .u64 0] 33))
    have vb := hid (vbox 1 0 0 0 ⟨#[]⟩ W)
    go_enter Tryz.func6, Tryz.ntmps6
    go_wp2_with (first | (go_at_call 17; (with_reducible refine cr.mono ?_); rintro e w2 ⟨rfl, hB2⟩; clear cr; (obtain ⟨n9, hB⟩ := vb.out w2 hB2); (have m0 := n9 0); (have m1 := n9 1); (have m2 := n9 2); (have m3 := n9 3); clear n9; (simp only [List.getElem?_toArray, List.getElem?_cons_succ, List.getElem?_cons_zero] at m0 m1 m2 m3)) | (go_at_call 19; (with_reducible refine (cb _).mono ?_); rintro e w' ⟨rfl, hw⟩; (have hw' := hw.symm); subst hw'; clear hw))
    go_ret2
    exact ⟨rfl, hB⟩
  · obtain rfl : i = 1 := hi
    have cr := vright_c 1 1 0 0 ⟨#[]⟩ (.inr (.inl ⟨rfl, .inr rfl, rfl, rfl, rfl⟩)) (W.alloc (.cells #[.int .i64 1, .int .i64 1, .int .u64 0, .string ⟨#[]⟩, .int .u64 0] 33))
    have vb := hid (vbox 1 1 0 0 ⟨#[]⟩ W)
    go_enter Tryz.func6, Tryz.ntmps6
    go_wp2_with (first | (go_at_call 17; (with_reducible refine cr.mono ?_); rintro e w2 ⟨rfl, hB2⟩; clear cr; (obtain ⟨n9, hB⟩ := vb.out w2 hB2); (have m0 := n9 0); (have m1 := n9 1); (have m2 := n9 2); (have m3 := n9 3); clear n9; (simp only [List.getElem?_toArray, List.getElem?_cons_succ, List.getElem?_cons_zero] at m0 m1 m2 m3)) | (go_at_call 19; (with_reducible refine (cb _).mono ?_); rintro e w' ⟨rfl, hw⟩; (have hw' := hw.symm); subst hw'; clear hw))
    go_ret2
    exact ⟨rfl, hB⟩
theorem box_float (hp vr : Value) (bi : Int) (h0 : 0 ≤ bi) (h1 : bi < 18446744073709551616) (W : World) : Calls Tryz.prog 6 #[hp, .agg #[.int .i64 3, .int .i64 0, .int .u64 bi, .string ⟨#[]⟩, .int .u64 0], vr] W fun e w' => e = .returned (.tuple #[.int .u64 (fltW bi), .int .i64 0]) ∧ Below W.heap.size W w' := by
  have cr := vright_c 3 0 bi 0 ⟨#[]⟩ (.inr (.inr (.inr (.inl ⟨rfl, rfl, rfl, rfl⟩)))) (W.alloc (.cells #[.int .i64 3, .int .i64 0, .int .u64 bi, .string ⟨#[]⟩, .int .u64 0] 33))
  have vb := hid (vbox 3 0 bi 0 ⟨#[]⟩ W)
  go_enter Tryz.func6, Tryz.ntmps6
  go_wp2_with (first | (go_at_call 17; (with_reducible refine cr.mono ?_); rintro e w2 ⟨rfl, hB2⟩; clear cr; (obtain ⟨n9, hB⟩ := vb.out w2 hB2); (have m0 := n9 0); (have m1 := n9 1); (have m2 := n9 2); (have m3 := n9 3); clear n9; (simp only [List.getElem?_toArray, List.getElem?_cons_succ, List.getElem?_cons_zero] at m0 m1 m2 m3)) | (go_at_call 21; (with_reducible refine (fromFloat_c bi h0 h1 _).mono ?_); rintro e w' ⟨rfl, hw⟩; (have hw' := hw.symm); subst hw'; clear hw))
  go_ret2
  exact ⟨rfl, hB⟩
theorem box_int (hp vr : Value) (i : Int) (P : World → Ending → World → Prop) (hP : ∀ w e w', P w e w' → ∃ x y, e = .returned (.tuple #[.int .u64 x, .int .i64 y])) (W : World) (ci : ∀ w, Below W.heap.size W w → Calls Tryz.prog 20 #[hp, .int .i64 i, vr] w (P w)) : Calls Tryz.prog 6 #[hp, .agg #[.int .i64 2, .int .i64 i, .int .u64 0, .string ⟨#[]⟩, .int .u64 0], vr] W fun e w' => ∃ w, Below W.heap.size W w ∧ P w e w' := by
  have cr := vright_c 2 i 0 0 ⟨#[]⟩ (.inr (.inr (.inl ⟨rfl, rfl, rfl, rfl⟩))) (W.alloc (.cells #[.int .i64 2, .int .i64 i, .int .u64 0, .string ⟨#[]⟩, .int .u64 0] 33))
  have vb := hid (vbox 2 i 0 0 ⟨#[]⟩ W)
  go_enter Tryz.func6, Tryz.ntmps6
  go_wp2_with (first | (go_at_call 17; (with_reducible refine cr.mono ?_); rintro e w2 ⟨rfl, hB2⟩; clear cr; (obtain ⟨n9, hB⟩ := vb.out w2 hB2); (have m0 := n9 0); (have m1 := n9 1); (have m2 := n9 2); (have m3 := n9 3); clear n9; (simp only [List.getElem?_toArray, List.getElem?_cons_succ, List.getElem?_cons_zero] at m0 m1 m2 m3)) | (go_at_call 20; (with_reducible refine (ci _ hB).mono ?_); intro e w3 h3; (obtain ⟨x, y, rfl⟩ := hP _ _ _ h3)))
  go_ret2
  exact ⟨_, hB, h3⟩
theorem box_text (hp vr : Value) (t : ByteArray) (P : World → Ending → World → Prop) (hP : ∀ w e w', P w e w' → ∃ x y, e = .returned (.tuple #[.int .u64 x, .int .i64 y])) (W : World) (ci : ∀ w, Below W.heap.size W w → Calls Tryz.prog 22 #[hp, .string t, vr] w (P w)) : Calls Tryz.prog 6 #[hp, .agg #[.int .i64 4, .int .i64 0, .int .u64 0, .string t, .int .u64 0], vr] W fun e w' => ∃ w, Below W.heap.size W w ∧ P w e w' := by
  have cr := vright_c 4 0 0 0 t (.inr (.inr (.inr (.inr ⟨rfl, rfl, rfl, rfl⟩)))) (W.alloc (.cells #[.int .i64 4, .int .i64 0, .int .u64 0, .string t, .int .u64 0] 33))
  have vb := hid (vbox 4 0 0 0 t W)
  go_enter Tryz.func6, Tryz.ntmps6
  go_wp2_with (first | (go_at_call 17; (with_reducible refine cr.mono ?_); rintro e w2 ⟨rfl, hB2⟩; clear cr; (obtain ⟨n9, hB⟩ := vb.out w2 hB2); (have m0 := n9 0); (have m1 := n9 1); (have m2 := n9 2); (have m3 := n9 3); clear n9; (simp only [List.getElem?_toArray, List.getElem?_cons_succ, List.getElem?_cons_zero] at m0 m1 m2 m3)) | (go_at_call 22; (with_reducible refine (ci _ hB).mono ?_); intro e w3 h3; (obtain ⟨x, y, rfl⟩ := hP _ _ _ h3)))
  go_ret2
  exact ⟨_, hB, h3⟩
end Go.Proofs.YtikgicepdalfpaaGreat.W
/- Package value: Unbox, of a number in a cell. -/
namespace Go.Proofs.YtikgicepdalfpaaGreat.W
open Go.ChangeShapes Go.WideShapes Go.RowKit Go.Shelf
set_option linter.unusedVariables false
section
variable {W W' : World} {hb sb : Nat} {vc : Value} {T : Nat → Prop} {H : List (Option Hc)} {u h : Nat}
theorem valT : (Tryz.prog.underlying 33).map (fun d => match d with | .struct _ | .array _ _ => true | _ => false) = some true := by kernel_rfl
theorem valSz : (Tryz.prog.info? 33).map (·.size) = some 5 := by kernel_rfl
theorem val_ret2 {fn : Func} {p q : Tmp} (h : fn.results = #[.cell p 33, .tmp q]) (tmps : Array Value) (w : World) (gb : Nat) (v0 v1 v2 v3 v4 : Value) (fr : Nat × Nat) (hp : tmps.getD p undef = .pointer (some ⟨gb, 0, none⟩)) (hg : w.heap[gb]? = some (.cells #[v0, v1, v2, v3, v4] 33 fr)) : (results fn tmps).run Tryz.prog w = .ok (.tuple #[.agg #[v0, v1, v2, v3, v4], tmps.getD q undef]) w := by
  have ht := valT
  rw [results_cell_tmp h, hp]
  cases hu : Tryz.prog.underlying 33 with
  | none => rw [hu] at ht; cases ht
  | some d =>
    rw [hu] at ht
    simp only [Option.map_some, Option.some.injEq] at ht
    have hl := run_loadVar_row (P := Tryz.prog) w gb 33 33 #[v0, v1, v2, v3, v4] fr d hg hu (by cases d <;> first | rfl | exact ht) (by rw [valSz]; rfl)
    simp [asAddr, hl]
theorem five_set {w : World} {gb : Nat} {z0 z1 z2 z3 z4 : Value} {t : TypeId} (hg : w.heap[gb]? = some (.cells #[z0, z1, z2, z3, z4] t (0, 0))) (v0 v1 v2 v3 v4 : Value) : (((((w.setCell ⟨gb, 0, none⟩ v0).setCell ⟨gb, 1, none⟩ v1).setCell ⟨gb, 2, none⟩ v2).setCell ⟨gb, 3, none⟩ v3).setCell ⟨gb, 4, none⟩ v4).heap[gb]? = some (.cells #[v0, v1, v2, v3, v4] t (0, 0)) := by
  have h0 : w.heap[gb]? = some (.cells [z0, z1, z2, z3, z4].toArray t (0, 0)) := hg
  have h1 := heap_set h0 0 v0
  have h2 := heap_set h1 1 v1
  have h3 := heap_set h2 2 v2
  have h4 := heap_set h3 3 v3
  exact heap_set h4 4 v4
theorem five_below {w a : World} {gb B : Nat} (h : Below B a w) (hB : B ≤ gb) (v0 v1 v2 v3 v4 : Value) : Below B a (((((w.setCell ⟨gb, 0, none⟩ v0).setCell ⟨gb, 1, none⟩ v1).setCell ⟨gb, 2, none⟩ v2).setCell ⟨gb, 3, none⟩ v3).setCell ⟨gb, 4, none⟩ v4) :=
  ((((h.setCell (p := ⟨gb, 0, none⟩) hB v0).setCell (p := ⟨gb, 1, none⟩) hB v1).setCell (p := ⟨gb, 2, none⟩) hB v2).setCell (p := ⟨gb, 3, none⟩) hB v3).setCell (p := ⟨gb, 4, none⟩) hB v4
theorem unboxCell_num (g : HLay W hb sb vc T H u h) (w : Nat) (hw : w < 18446744073709551616) (id : Nat) (hi : hit H w = some id) (i : Int) (hc : H[id]? = some (some (.num i))) :
    Calls Tryz.prog 50 #[.pointer (some ⟨hb, 0, none⟩), .int .u64 w] W fun e w' => e = .returned (.tuple #[.agg #[.int .i64 2, .int .i64 i, .int .u64 0, .string ⟨#[]⟩, .int .u64 0], .int .i64 0]) ∧ Below W.heap.size W w' := by
  have hB1 : Below W.heap.size W (W.alloc (.cells #[.int .i64 0, .int .i64 0, .int .u64 0, .string ⟨#[]⟩, .int .u64 0] 33)) := (Below.refl _ W).alloc (Nat.le_refl _) _
  have hs1 : (W.alloc (.cells #[.int .i64 0, .int .i64 0, .int .u64 0, .string ⟨#[]⟩, .int .u64 0] 33)).heap.size = W.heap.size + 1 := World.size_alloc ..
  have f1 := World.alloc_heap_new W (.cells #[.int .i64 0, .int .i64 0, .int .u64 0, .string ⟨#[]⟩, .int .u64 0] 33)
  have cg := get_num (g.below hB1) w hw id hi i hc
  have kp : Hid (∀ w4, Below (W.alloc (.cells #[.int .i64 0, .int .i64 0, .int .u64 0, .string ⟨#[]⟩, .int .u64 0] 33)).heap.size (W.alloc (.cells #[.int .i64 0, .int .i64 0, .int .u64 0, .string ⟨#[]⟩, .int .u64 0] 33)) w4 → w4.heap[W.heap.size]? = some (.cells #[.int .i64 0, .int .i64 0, .int .u64 0, .string ⟨#[]⟩, .int .u64 0] 33) ∧ Below W.heap.size W w4 ∧ W.heap.size + 1 ≤ w4.heap.size) := by
    show ∀ w4, _
    intro w4 hB4
    exact ⟨(hB4.block _ (by omega)).trans f1, hB1.trans (hB4.mono hB1.size), by have := hB4.size; omega⟩
  clear g hc
  go_enter Tryz.func50, Tryz.ntmps50
  go_upto_region 1 with fail
  generalize W.alloc (.cells #[.int .i64 0, .int .i64 0, .int .u64 0, .string ⟨#[]⟩, .int .u64 0] 33) = W1 at *
  go_upto_region 2 with (go_at_call 43; (with_reducible refine cg.mono ?_); rintro e w4 ⟨rfl, hB4⟩; clear cg; (obtain ⟨fR, hBf, hz4⟩ := kp.out w4 hB4))
  have hB5 : Below w4.heap.size w4 (w4.alloc (.cells #[.int .i64 2, .bool false, .int .i64 i, .string ByteArray.empty, .slice none 0 0, .slice none 0 0, .int .u64 0, .int .i64 0, .int .i64 0] 50)) := (Below.refl _ w4).alloc (Nat.le_refl _) _
  have e5 := World.cell?_alloc_new w4 #[.int .i64 2, .bool false, .int .i64 i, .string ByteArray.empty, .slice none 0 0, .slice none 0 0, .int .u64 0, .int .i64 0, .int .i64 0] 50
  have d0 := e5 0
  have d2 := e5 2
  simp only [List.getElem?_toArray, List.getElem?_cons_succ, List.getElem?_cons_zero] at d0 d2
  generalize w4.alloc (.cells #[.int .i64 2, .bool false, .int .i64 i, .string ByteArray.empty, .slice none 0 0, .slice none 0 0, .int .u64 0, .int .i64 0, .int .i64 0] 50) = W5 at *
  have f5 : W5.heap[W.heap.size]? = some (.cells #[.int .i64 0, .int .i64 0, .int .u64 0, .string ⟨#[]⟩, .int .u64 0] 33) := (hB5.block _ (by omega)).trans fR
  have hBe : Below W.heap.size W W5 := hBf.trans (hB5.mono hBf.size)
  have eR := fun j => cell_of_row W5 W.heap.size j _ _ _ f5
  have zR : ∀ j, W5.frozen? ⟨W.heap.size, j, none⟩ = false := fun j => by simp [World.frozen?, f5]
  have FR := hid f5
  clear f5 fR hB5 hBf hB4 e5 hz4
  go_wp2
  refine bodyPost_ret (val_ret2 rfl _ _ W.heap.size _ _ _ _ _ (0, 0) rfl (five_set FR.out _ _ _ _ _)) rfl ?_
  exact ⟨rfl, five_below hBe (Nat.le_refl _) _ _ _ _ _⟩
theorem unbox_num (g : HLay W hb sb vc T H u h) (w : Nat) (hw : w < 18446744073709551616) (hcl : cls (w : Int) = 6) (id : Nat) (hi : hit H w = some id) (i : Int) (hc : H[id]? = some (some (.num i))) :
    Calls Tryz.prog 25 #[.pointer (some ⟨hb, 0, none⟩), .int .u64 w] W fun e w' => e = .returned (.tuple #[.agg #[.int .i64 2, .int .i64 i, .int .u64 0, .string ⟨#[]⟩, .int .u64 0], .int .i64 0]) ∧ Below W.heap.size W w' := by
  have hB1 : Below W.heap.size W (W.alloc (.cells #[.int .i64 0, .int .i64 0, .int .u64 0, .string ⟨#[]⟩, .int .u64 0] 33)) := (Below.refl _ W).alloc (Nat.le_refl _) _
  have hs1 : (W.alloc (.cells #[.int .i64 0, .int .i64 0, .int .u64 0, .string ⟨#[]⟩, .int .u64 0] 33)).heap.size = W.heap.size + 1 := World.size_alloc ..
  have f1 := World.alloc_heap_new W (.cells #[.int .i64 0, .int .i64 0, .int .u64 0, .string ⟨#[]⟩, .int .u64 0] 33)
  have cc := fun W => class_c (w : Int) (by omega) (by omega) W
  rw [hcl] at cc
  have cu := unboxCell_num (g.below hB1) w hw id hi i hc
  have kp : Hid (∀ w4, Below (W.alloc (.cells #[.int .i64 0, .int .i64 0, .int .u64 0, .string ⟨#[]⟩, .int .u64 0] 33)).heap.size (W.alloc (.cells #[.int .i64 0, .int .i64 0, .int .u64 0, .string ⟨#[]⟩, .int .u64 0] 33)) w4 → w4.heap[W.heap.size]? = some (.cells #[.int .i64 0, .int .i64 0, .int .u64 0, .string ⟨#[]⟩, .int .u64 0] 33) ∧ Below W.heap.size W w4) := by
    show ∀ w4, _
    intro w4 hB4
    exact ⟨(hB4.block _ (by omega)).trans f1, hB1.trans (hB4.mono hB1.size)⟩
  clear g hc hcl
  go_enter Tryz.func25, Tryz.ntmps25
  go_upto_region 1 with fail
  generalize W.alloc (.cells #[.int .i64 0, .int .i64 0, .int .u64 0, .string ⟨#[]⟩, .int .u64 0] 33) = W1 at *
  go_wp2_with (first | (go_at_call 46; (with_reducible refine (cc _).mono ?_); rintro e w' ⟨rfl, hw⟩; (have hw' := hw.symm); subst hw'; clear hw) | (go_at_call 50; (with_reducible refine cu.mono ?_); rintro e w4 ⟨rfl, hB4⟩; clear cu; (obtain ⟨fR, hBf⟩ := kp.out w4 hB4); (have eR := fun j => cell_of_row w4 W.heap.size j _ _ _ fR); (have zR := (fun j => by simp [World.frozen?, fR] : ∀ j, w4.frozen? ⟨W.heap.size, j, none⟩ = false)); (have FR := hid fR); clear fR))
  refine bodyPost_ret (val_ret2 rfl _ _ W.heap.size _ _ _ _ _ (0, 0) rfl (five_set FR.out _ _ _ _ _)) rfl ?_
  exact ⟨rfl, five_below hBf (Nat.le_refl _) _ _ _ _ _⟩
end
end Go.Proofs.YtikgicepdalfpaaGreat.W
/- The contract of the reference's class function: it returns the class 'cls' of every pattern; the world has at most drawn. -/
namespace Go.Proofs.YtikgicepdalfpaaGreat.W
open Go.ChangeShapes Go.WideShapes Go.RowKit

theorem txt_lt (l k : Int) (hk : k ≤ 5) (hl : l / 1099511627776 = k) (c : l % 1099511627776 < 2 ^ (8 * k).toNat) : textCls l = 5 := by
  unfold textCls txtOk
  rw [hl]
  simp [hk, c]
theorem txt_ge (l k : Int) (hl : l / 1099511627776 = k) (c : ¬ l % 1099511627776 < 2 ^ (8 * k).toNat) : textCls l = 7 := by
  unfold textCls txtOk
  rw [hl]
  simp [c]
set_option maxHeartbeats 1000000 in
theorem refClass_c (n : Int) (h0 : 0 ≤ n) (h1 : n < 18446744073709551616) (w : World) :
    Calls Tryz.prog 10 #[.int .u64 n] w fun e w' => e = .returned (.int .i64 (cls n)) ∧ ∃ m, w' = w.drewN m := by
  by_cases c0 : nanB n = false
  · have H := hid (cls_dbl n c0)
    go_enter Tryz.func10, Tryz.ntmps10
    go_wp2_with (go_at_call 27; refine (refNaN_c _ (by omega) (by omega) _).mono ?_; rintro e w' ⟨rfl, rfl⟩)
    go_ret
    exact ⟨ret_int H.out.symm, 0, rfl⟩
  have c0' : nanB n = true := by simpa using c0
  clear c0
  by_cases c1 : n = 9221120237041090560
  · have H := hid cls_canon
    subst c1
    go_enter Tryz.func10, Tryz.ntmps10
    go_wp2_with (go_at_call 27; refine (refNaN_c _ (by omega) (by omega) _).mono ?_; rintro e w' ⟨rfl, rfl⟩)
    go_ret
    exact ⟨ret_int H.out.symm, 0, rfl⟩
  have d1 : (n == 9221120237041090560) = false := by simpa using c1
  by_cases c2 : n < 18444492273895866368
  · have H := hid (cls_low n c0' c1 c2)
    clear c1
    go_enter Tryz.func10, Tryz.ntmps10
    go_wp2_with (go_at_call 27; refine (refNaN_c _ (by omega) (by omega) _).mono ?_; rintro e w' ⟨rfl, rfl⟩)
    go_ret
    exact ⟨ret_int H.out.symm, 0, rfl⟩
  have c2' : 18444492273895866368 ≤ n := by omega
  clear c1 c2
  obtain ⟨t, ht⟩ : ∃ t, (n - 18444492273895866368) / 281474976710656 = t := ⟨_, rfl⟩
  obtain ⟨l, hl⟩ : ∃ l, n % 281474976710656 = l := ⟨_, rfl⟩
  have t0 : 0 ≤ t := by omega
  have t8 : t < 8 := by omega
  have l0 : 0 ≤ l := by omega
  have l1 : l < 281474976710656 := by omega
  have ht' : n / 281474976710656 % 8 = t := by omega
  by_cases e0 : t = 0
  · subst e0
    have H0 := cls_t0 n h1 c2' ht'
    rw [hl] at H0
    have H := hid H0
    clear H0 ht'
    by_cases f0 : l = 0
    · subst f0
      go_enter Tryz.func10, Tryz.ntmps10
      go_wp2_with (go_at_call 27; refine (refNaN_c _ (by omega) (by omega) _).mono ?_; rintro e w' ⟨rfl, rfl⟩)
      go_ret
      exact ⟨ret_int (by rw [H.out]; rfl), 0, rfl⟩
    · have g0 : (l == 0) = false := by simpa using f0
      by_cases f2 : l ≤ 2
      · have H2 := hid (show plainCls l = 4 by simp [plainCls, f0]; omega)
        clear f0
        go_enter Tryz.func10, Tryz.ntmps10
        go_wp2_with (go_at_call 27; refine (refNaN_c _ (by omega) (by omega) _).mono ?_; rintro e w' ⟨rfl, rfl⟩)
        go_ret
        exact ⟨ret_int (by rw [H.out, H2.out]), 0, rfl⟩
      · have H2 := hid (show plainCls l = 7 by simp [plainCls, f0]; omega)
        clear f0
        go_enter Tryz.func10, Tryz.ntmps10
        go_wp2_with (go_at_call 27; refine (refNaN_c _ (by omega) (by omega) _).mono ?_; rintro e w' ⟨rfl, rfl⟩)
        go_ret
        exact ⟨ret_int (by rw [H.out, H2.out]), 0, rfl⟩
  have e0' : (t == 0) = false := by simpa using e0
  by_cases e1 : t = 1
  · subst e1
    have H := hid (cls_t1 n h1 c2' ht')
    clear ht' e0
    go_enter Tryz.func10, Tryz.ntmps10
    go_wp2_with (go_at_call 27; refine (refNaN_c _ (by omega) (by omega) _).mono ?_; rintro e w' ⟨rfl, rfl⟩)
    go_ret
    exact ⟨ret_int H.out.symm, 0, rfl⟩
  have e1' : (t == 1) = false := by simpa using e1
  by_cases e2 : t = 2
  · subst e2
    have H0 := cls_t2 n h1 c2' ht'
    rw [hl] at H0
    have H := hid H0
    clear H0 ht' e0 e1
    obtain ⟨k, hk⟩ : ∃ k, l / 1099511627776 = k := ⟨_, rfl⟩
    obtain ⟨r, hr⟩ : ∃ r, l % 1099511627776 = r := ⟨_, rfl⟩
    have k0 : 0 ≤ k := by omega
    have k1 : k < 256 := by omega
    have r0 : 0 ≤ r := by omega
    by_cases c : 5 < k
    · have H2 := hid (txtOk_big l (by omega))
      have hd : decide (k ≤ 5) = false := by simpa using c
      go_enter Tryz.func10, Tryz.ntmps10
      go_wp2_with (first | (go_at_call 27; refine (refNaN_c _ (by omega) (by omega) _).mono ?_; rintro e w' ⟨rfl, rfl⟩) | (go_at_call 28; refine (power_i _ (by omega) (by omega) _).mono ?_; rintro e w' ⟨rfl, rfl⟩))
      go_quiet ((go_at_call 28; exact Calls.quiet_of_same (power_i _ (by omega) (by omega) _)))
      go_wp2
      go_ret
      exact ⟨ret_int (by rw [H.out, H2.out]), _, rfl⟩
    · have hd : decide (k ≤ 5) = true := by simp; omega
      by_cases d : r < 2 ^ (8 * k).toNat
      · have H2 := hid (txt_lt l k (by omega) hk (by rw [hr]; exact d))
        go_enter Tryz.func10, Tryz.ntmps10
        go_wp2_with (first | (go_at_call 27; refine (refNaN_c _ (by omega) (by omega) _).mono ?_; rintro e w' ⟨rfl, rfl⟩) | (go_at_call 28; refine (power_i _ (by omega) (by omega) _).mono ?_; rintro e w' ⟨rfl, rfl⟩))
        go_quiet ((go_at_call 28; exact Calls.quiet_of_same (power_i _ (by omega) (by omega) _)))
        go_wp2
        go_ret
        exact ⟨ret_int (by rw [H.out, H2.out]), _, rfl⟩
      · have H2 := hid (txt_ge l k hk (by rw [hr]; exact d))
        go_enter Tryz.func10, Tryz.ntmps10
        go_wp2_with (first | (go_at_call 27; refine (refNaN_c _ (by omega) (by omega) _).mono ?_; rintro e w' ⟨rfl, rfl⟩) | (go_at_call 28; refine (power_i _ (by omega) (by omega) _).mono ?_; rintro e w' ⟨rfl, rfl⟩))
        go_quiet ((go_at_call 28; exact Calls.quiet_of_same (power_i _ (by omega) (by omega) _)))
        go_wp2
        go_ret
        exact ⟨ret_int (by rw [H.out, H2.out]), _, rfl⟩
  have e2' : (t == 2) = false := by simpa using e2
  by_cases e3 : t = 3
  · subst e3
    have H := hid (cls_t3 n h1 c2' ht')
    clear ht' e0 e1 e2
    go_enter Tryz.func10, Tryz.ntmps10
    go_wp2_with (go_at_call 27; refine (refNaN_c _ (by omega) (by omega) _).mono ?_; rintro e w' ⟨rfl, rfl⟩)
    go_ret
    exact ⟨ret_int H.out.symm, 0, rfl⟩
  · have H := hid (cls_t4 n h1 c2' (by omega))
    have e3' : (t == 3) = false := by simpa using e3
    clear ht' e0 e1 e2 e3
    go_enter Tryz.func10, Tryz.ntmps10
    go_wp2_with (go_at_call 27; refine (refNaN_c _ (by omega) (by omega) _).mono ?_; rintro e w' ⟨rfl, rfl⟩)
    go_ret
    exact ⟨ret_int H.out.symm, 0, rfl⟩
end Go.Proofs.YtikgicepdalfpaaGreat.W
/- Contracts of the reference's faces: each returns what package word's own does; the world has at most drawn. -/
namespace Go.Proofs.YtikgicepdalfpaaGreat.W
open Go.ChangeShapes Go.WideShapes Go.RowKit

set_option maxHeartbeats 400000 in
theorem refFromFloat_c (n : Int) (h0 : 0 ≤ n) (h1 : n < 18446744073709551616) (w : World) :
    Calls Tryz.prog 9 #[.int .u64 n] w fun e w' => e = .returned (.int .u64 (fltW n)) ∧ w' = w := by
  cases c : nanB n
  · have H := hid (show fltW n = n by simp [fltW, c])
    go_enter Tryz.func9, Tryz.ntmps9
    go_wp2_with (go_at_call 27; refine (refNaN_c _ (by omega) (by omega) _).mono ?_; rintro e w' ⟨rfl, rfl⟩)
    go_ret
    exact ⟨ret_int H.out.symm, rfl⟩
  · have H := hid (show fltW n = 9221120237041090560 by simp [fltW, c])
    go_enter Tryz.func9, Tryz.ntmps9
    go_wp2_with (go_at_call 27; refine (refNaN_c _ (by omega) (by omega) _).mono ?_; rintro e w' ⟨rfl, rfl⟩)
    go_ret
    exact ⟨ret_int H.out.symm, rfl⟩
end Go.Proofs.YtikgicepdalfpaaGreat.W
