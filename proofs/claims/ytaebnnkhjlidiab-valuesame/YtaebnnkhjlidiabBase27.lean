import Derived.Test.YtaebnnkhjlidiabBase24
import Derived.Test.YtaebnnkhjlidiabBase26
import Derived.BigQuiet
import Derived.Test.YtaebnnkhjlidiabBase17
import Derived.Test.YtaebnnkhjlidiabBase14
import Derived.OwnWalk
/- Package heap: load and Get, of a buffer and of a view. -/
namespace Go.Proofs.Ytaebnnkhjlidiab.W
open Go.ChangeShapes Go.WideShapes Go.RowKit Go.Shelf
set_option linter.unusedVariables false
theorem nine_far (w : World) (gb : Nat) (v0 v1 v2 v3 v4 v5 v6 v7 v8 : Value) (k : Nat) (h : k ≠ gb) : (((((((((w.setCell ⟨gb, 0, none⟩ v0).setCell ⟨gb, 1, none⟩ v1).setCell ⟨gb, 2, none⟩ v2).setCell ⟨gb, 3, none⟩ v3).setCell ⟨gb, 4, none⟩ v4).setCell ⟨gb, 5, none⟩ v5).setCell ⟨gb, 6, none⟩ v6).setCell ⟨gb, 7, none⟩ v7).setCell ⟨gb, 8, none⟩ v8).heap[k]? = w.heap[k]? := by
  rw [Below.heap_setCell _ _ _ _ h, Below.heap_setCell _ _ _ _ h, Below.heap_setCell _ _ _ _ h, Below.heap_setCell _ _ _ _ h, Below.heap_setCell _ _ _ _ h, Below.heap_setCell _ _ _ _ h, Below.heap_setCell _ _ _ _ h, Below.heap_setCell _ _ _ _ h, Below.heap_setCell _ _ _ _ h]
section
variable {W W' : World} {hb sb : Nat} {vc : Value} {T : Nat → Prop} {H : List (Option Hc)} {u h : Nat}
set_option maxHeartbeats 1000000 in
theorem load_buf (g : HLay W hb sb vc T H u h) (id : Nat) (k : Int) (bs : List Nat) (hc : H[id]? = some (some (.buf k bs))) :
    Calls Try.prog 58 #[.pointer (some ⟨hb, 0, none⟩), .int .i64 id] W fun e w' => ∃ gb, e = .returned (.agg #[.int .i64 k, .bool false, .int .i64 0, .string ⟨#[]⟩, .slice (some ⟨gb, 0, none⟩) bs.length bs.length, .slice none 0 0, .int .u64 0, .int .i64 0, .int .i64 0]) ∧ W.heap.size + 1 ≤ gb ∧ Below W.heap.size W w' ∧ w'.ownsRow (W.heap.size + 1) 5 1 (.slice (some ⟨gb, 0, none⟩) bs.length bs.length) bs.length (bs.map byteV) := by
  have hidl : id < H.length := (List.getElem?_eq_some_iff.1 hc).1
  obtain ⟨b, cap, hvc, hcell, _⟩ := g.at hidl
  have c1 := g.cell 1
  simp only [List.getElem?_cons_succ, List.getElem?_cons_zero] at c1
  rw [hvc] at c1
  have k0 := hcell 0 _ hc (by omega)
  have k1 := hcell 1 _ hc (by omega)
  have k2 := hcell 2 _ hc (by omega)
  have k3 := hcell 3 _ hc (by omega)
  have k4 := hcell 4 _ hc (by omega)
  simp only [clO, Hc.cl, Cl.cells, List.getElem?_cons_succ, List.getElem?_cons_zero, Nat.add_zero] at k0 k1 k2 k3 k4
  have j0 : (0 : Int) ≤ id := by omega
  have j1 : (id : Int) < H.length := by omega
  have ho := g.ok id _ hc
  have hk : elB k > 0 := ho.1
  have cs : ∀ w, Calls Try.prog 43 #[.int .i64 k, .bool false] w fun e w' => e = .returned (.int .i64 3) ∧ w' = w := fun w => shape_buf k hk w
  clear hcell
  have hB1 : Below W.heap.size W (W.alloc (.cells #[.int .i64 0, .bool false, .int .i64 0, .string ⟨#[]⟩, .slice none 0 0, .slice none 0 0, .int .u64 0, .int .i64 0, .int .i64 0] 32)) := (Below.refl _ W).alloc (Nat.le_refl _) _
  have hs1 : (W.alloc (.cells #[.int .i64 0, .bool false, .int .i64 0, .string ⟨#[]⟩, .slice none 0 0, .slice none 0 0, .int .u64 0, .int .i64 0, .int .i64 0] 32)).heap.size = W.heap.size + 1 := World.size_alloc ..
  have e1 := World.cell?_alloc_new W #[.int .i64 0, .bool false, .int .i64 0, .string ⟨#[]⟩, .slice none 0 0, .slice none 0 0, .int .u64 0, .int .i64 0, .int .i64 0] 32
  have f1 := World.alloc_heap_new W (.cells #[.int .i64 0, .bool false, .int .i64 0, .string ⟨#[]⟩, .slice none 0 0, .slice none 0 0, .int .u64 0, .int .i64 0, .int .i64 0] 32)
  go_enter Try.func58, Try.ntmps58
  go_upto_region 1 with fail
  have c1' := below_cell hB1 c1
  have k0' := below_cell hB1 k0
  have k1' := below_cell hB1 k1
  have k2' := below_cell hB1 k2
  have k3' := below_cell hB1 k3
  have k4' := below_cell hB1 k4
  generalize hW1 : W.alloc (.cells #[.int .i64 0, .bool false, .int .i64 0, .string ⟨#[]⟩, .slice none 0 0, .slice none 0 0, .int .u64 0, .int .i64 0, .int .i64 0] 32) = W1 at *
  clear c1 k0 k1 k2 k3 k4 hW1
  go_upto_region 2 with fail
  have hBc : Below W1.heap.size W1 (W1.alloc (.cells #[.int .i64 k, .bool false, .int .u64 0, .int .i64 0, .int .i64 0] 92)) := (Below.refl _ W1).alloc (Nat.le_refl _) _
  have fC := World.alloc_heap_new W1 (.cells #[.int .i64 k, .bool false, .int .u64 0, .int .i64 0, .int .i64 0] 92)
  rw [hs1] at fC
  have hsc : (W1.alloc (.cells #[.int .i64 k, .bool false, .int .u64 0, .int .i64 0, .int .i64 0] 92)).heap.size = W.heap.size + 2 := by rw [World.size_alloc, hs1]
  generalize World.alloc W1 _ = Wc at *
  have eC := fun j => cell_of_row Wc (W.heap.size + 1) j _ _ _ fC
  go_upto_region 3 with (go_at_call 86; (with_reducible refine (bare_c k false 0 0 0 _).mono ?_); rintro e wb ⟨rfl, hBb⟩)
  have hbz := hBb.size
  have fO := World.alloc_heap_new wb (.cells #[.int .i64 k, .bool false, .int .i64 0, .string ⟨#[]⟩, .slice none 0 0, .slice none 0 0, .int .u64 0, .int .i64 0, .int .i64 0] 32)
  have hBd : Below wb.heap.size wb (wb.alloc (.cells #[.int .i64 k, .bool false, .int .i64 0, .string ⟨#[]⟩, .slice none 0 0, .slice none 0 0, .int .u64 0, .int .i64 0, .int .i64 0] 32)) := (Below.refl _ wb).alloc (Nat.le_refl _) _
  have hB3 : Below W1.heap.size W1 (wb.alloc (.cells #[.int .i64 k, .bool false, .int .i64 0, .string ⟨#[]⟩, .slice none 0 0, .slice none 0 0, .int .u64 0, .int .i64 0, .int .i64 0] 32)) := (hBc.trans (hBb.mono (by omega))).trans (hBd.mono (by omega))
  have fC3 := (hBd.block (W.heap.size + 1) (by omega)).trans ((hBb.block (W.heap.size + 1) (by omega)).trans fC)
  obtain ⟨nb, hnb⟩ : ∃ nb, wb.heap.size = nb := ⟨_, rfl⟩
  rw [hnb] at fO
  rw [hnb]
  have hO2 : W.heap.size + 2 ≤ nb := by omega
  clear hnb hBd hBb hBc fC eC hsc hbz
  generalize World.alloc wb _ = W3 at *
  have eO := fun j => cell_of_row W3 nb j _ _ _ fO
  have eC3 := fun j => cell_of_row W3 (W.heap.size + 1) j _ _ _ fC3
  have hs3 := (Array.getElem?_eq_some_iff.1 fO).1
  have hs2 := hs3
  clear fC3
  have eR3 : ∀ j, W3.cell? ⟨W.heap.size, j, none⟩ = #[.int .i64 0, .bool false, .int .i64 0, .string ⟨#[]⟩, .slice none 0 0, .slice none 0 0, .int .u64 0, .int .i64 0, .int .i64 0][j]? := by
    intro j
    rw [World.cell?_of_block (hB3.block W.heap.size (by omega))]
    exact e1 j
  have hBW : Below W.heap.size W W3 := hB1.trans (hB3.mono hB1.size)
  have g3 := g.below hBW
  have fR : W3.heap[W.heap.size]? = some (.cells #[.int .i64 0, .bool false, .int .i64 0, .string ⟨#[]⟩, .slice none 0 0, .slice none 0 0, .int .u64 0, .int .i64 0, .int .i64 0] 32) := (hB3.block W.heap.size (by omega)).trans f1
  have c0 := g3.cell 0
  simp only [List.getElem?_cons_zero] at c0
  have cl := loadBytes_c g3 id _ hc bs rfl ho.2.1 (by have := ho.2.2; exact this)
  have kp : Hid (∀ w4, Below W3.heap.size W3 w4 → w4.heap[W.heap.size]? = some (.cells #[.int .i64 0, .bool false, .int .i64 0, .string ⟨#[]⟩, .slice none 0 0, .slice none 0 0, .int .u64 0, .int .i64 0, .int .i64 0] 32) ∧ w4.heap[nb]? = some (.cells #[.int .i64 k, .bool false, .int .i64 0, .string ⟨#[]⟩, .slice none 0 0, .slice none 0 0, .int .u64 0, .int .i64 0, .int .i64 0] 32)) := by
    show ∀ w4, _
    intro w4 hB4
    exact ⟨(hB4.block _ (by omega)).trans fR, (hB4.block _ (by omega)).trans fO⟩
  clear eR3 fR fO g3 e1 c1' k0' k1' k2' k3' k4' f1
  go_upto_region 10 with (go_at_call 43; (with_reducible refine (cs _).mono ?_); rintro e w' ⟨rfl, hw⟩; (have hw' := hw.symm); subst hw'; clear hw)
  have HBW := hid hBW
  have HS3 := hid hs3
  clear g ho hc hBW hB1 hB3 hs1 hs2 hs3 j0 j1 hk
  generalize hnn : bs.length = nn at *
  go_wp2_with (go_at_call 87; (with_reducible refine cl.mono ?_); rintro e w4 ⟨gb, rfl, hgb, hB4, hown⟩; clear cl; (obtain ⟨fR, fO⟩ := kp.out w4 hB4); (have eR := fun j => cell_of_row w4 W.heap.size j _ _ _ fR); (have eO := fun j => cell_of_row w4 (nb) j _ _ _ fO); (have zR := (fun j => by simp [World.frozen?, fR] : ∀ j, w4.frozen? ⟨W.heap.size, j, none⟩ = false)); (have zO := (fun j => by simp [World.frozen?, fO] : ∀ j, w4.frozen? ⟨nb, j, none⟩ = false)); (have FR := hid fR); (have HB4 := hid hB4); (have HO := hid hown); (have HG := hid hgb); clear fR fO hB4 hown hgb)
  subst hnn
  have hBf : Below W.heap.size W w4 := HBW.out.trans (HB4.out.mono HBW.out.size)
  refine bodyPost_ret (cell_ret rfl _ _ W.heap.size _ _ _ _ _ _ _ _ _ (0, 0) rfl (nine_set ((Below.heap_setCell _ _ _ _ (by show W.heap.size ≠ nb; omega)).trans FR.out) _ _ _ _ _ _ _ _ _)) rfl ?_
  have hge : W.heap.size + 3 ≤ gb := by have := HG.out; have := HS3.out; omega
  refine ⟨gb, rfl, by omega, nine_below (hBf.setCell (p := ⟨nb, 4, none⟩) (by show W.heap.size ≤ nb; omega) _) (Nat.le_refl _) _ _ _ _ _ _ _ _ _, ?_⟩
  refine owns_on (owns_base HO.out (fun g e => by cases e; show W.heap.size + 1 ≤ gb; omega)) (fun q e => ?_)
  cases e
  refine (nine_far _ _ _ _ _ _ _ _ _ _ _ gb (by omega)).trans (Below.heap_setCell _ _ _ _ ?_)
  show gb ≠ nb
  have := HG.out; have := HS3.out; omega
theorem get_buf (g : HLay W hb sb vc T H u h) (w : Nat) (hw : w < 18446744073709551616) (id : Nat) (hi : hit H w = some id) (k : Int) (bs : List Nat) (hc : H[id]? = some (some (.buf k bs))) :
    Calls Try.prog 27 #[.pointer (some ⟨hb, 0, none⟩), .int .u64 w] W fun e w' => ∃ gb, e = .returned (.tuple #[.agg #[.int .i64 k, .bool false, .int .i64 0, .string ⟨#[]⟩, .slice (some ⟨gb, 0, none⟩) bs.length bs.length, .slice none 0 0, .int .u64 0, .int .i64 0, .int .i64 0], .int .i64 0]) ∧ W.heap.size ≤ gb ∧ Below W.heap.size W w' ∧ w'.ownsRow W.heap.size 5 1 (.slice (some ⟨gb, 0, none⟩) bs.length bs.length) bs.length (bs.map byteV) := by
  have hB1 : Below W.heap.size W (W.alloc (.cells #[.int .i64 0, .bool false, .int .i64 0, .string ⟨#[]⟩, .slice none 0 0, .slice none 0 0, .int .u64 0, .int .i64 0, .int .i64 0] 32)) := (Below.refl _ W).alloc (Nat.le_refl _) _
  have hs1 : (W.alloc (.cells #[.int .i64 0, .bool false, .int .i64 0, .string ⟨#[]⟩, .slice none 0 0, .slice none 0 0, .int .u64 0, .int .i64 0, .int .i64 0] 32)).heap.size = W.heap.size + 1 := World.size_alloc ..
  have f1 := World.alloc_heap_new W (.cells #[.int .i64 0, .bool false, .int .i64 0, .string ⟨#[]⟩, .slice none 0 0, .slice none 0 0, .int .u64 0, .int .i64 0, .int .i64 0] 32)
  have cf := find_c (g.below hB1) w hw
  rw [hi] at cf
  simp only [Option.getD_some, Option.isSome_some] at cf
  have cl := load_buf (g.below hB1) id k bs hc

  have kp : Hid (∀ w4, Below (W.alloc (.cells #[.int .i64 0, .bool false, .int .i64 0, .string ⟨#[]⟩, .slice none 0 0, .slice none 0 0, .int .u64 0, .int .i64 0, .int .i64 0] 32)).heap.size (W.alloc (.cells #[.int .i64 0, .bool false, .int .i64 0, .string ⟨#[]⟩, .slice none 0 0, .slice none 0 0, .int .u64 0, .int .i64 0, .int .i64 0] 32)) w4 → w4.heap[W.heap.size]? = some (.cells #[.int .i64 0, .bool false, .int .i64 0, .string ⟨#[]⟩, .slice none 0 0, .slice none 0 0, .int .u64 0, .int .i64 0, .int .i64 0] 32) ∧ Below W.heap.size W w4) := by
    show ∀ w4, _
    intro w4 hB4
    exact ⟨(hB4.block _ (by omega)).trans f1, hB1.trans (hB4.mono hB1.size)⟩
  clear hc
  generalize hnn : bs.length = nn at *
  go_enter Try.func27, Try.ntmps27
  go_upto_region 1 with fail
  generalize W.alloc (.cells #[.int .i64 0, .bool false, .int .i64 0, .string ⟨#[]⟩, .slice none 0 0, .slice none 0 0, .int .u64 0, .int .i64 0, .int .i64 0] 32) = W1 at *
  go_wp2_with (first | (go_at_call 47; (with_reducible refine cf.mono ?_); rintro e w' ⟨rfl, hw⟩; (have hw' := hw.symm); subst hw'; clear hw cf) | (go_at_call 58; (with_reducible refine cl.mono ?_); rintro e w4 ⟨gb, rfl, hgb, hB4, hown⟩; clear cl; (obtain ⟨fR, hBf⟩ := kp.out w4 hB4); (have HO := hid hown); (have HG := hid hgb); clear hown hgb; (have eR := fun j => cell_of_row w4 W.heap.size j _ _ _ fR); (have zR := (fun j => by simp [World.frozen?, fR] : ∀ j, w4.frozen? ⟨W.heap.size, j, none⟩ = false)); (have FR := hid fR); clear fR))
  refine bodyPost_ret (cell_ret2 rfl _ _ W.heap.size _ _ _ _ _ _ _ _ _ (0, 0) rfl (nine_set FR.out _ _ _ _ _ _ _ _ _)) rfl ?_
  subst hnn
  refine ⟨gb, rfl, by have := HG.out; omega, nine_below hBf (Nat.le_refl _) _ _ _ _ _ _ _ _ _, ?_⟩
  refine owns_on (owns_base HO.out (fun g e => by cases e; show W.heap.size ≤ gb; have := HG.out; omega)) (fun q e => ?_)
  cases e
  exact nine_far _ _ _ _ _ _ _ _ _ _ _ gb (by have := HG.out; omega)
set_option maxHeartbeats 1000000 in
theorem load_view (g : HLay W hb sb vc T H u h) (id : Nat) (k : Int) (ba p n : Nat) (hc : H[id]? = some (some (.view k ba p n))) :
    Calls Try.prog 58 #[.pointer (some ⟨hb, 0, none⟩), .int .i64 id] W fun e w' => e = .returned (.agg #[.int .i64 k, .bool true, .int .i64 0, .string ⟨#[]⟩, .slice none 0 0, .slice none 0 0, .int .u64 ba, .int .i64 p, .int .i64 n]) ∧ Below W.heap.size W w' := by
  have hidl : id < H.length := (List.getElem?_eq_some_iff.1 hc).1
  obtain ⟨b, cap, hvc, hcell, _⟩ := g.at hidl
  have c1 := g.cell 1
  simp only [List.getElem?_cons_succ, List.getElem?_cons_zero] at c1
  rw [hvc] at c1
  have k0 := hcell 0 _ hc (by omega)
  have k1 := hcell 1 _ hc (by omega)
  have k2 := hcell 2 _ hc (by omega)
  have k3 := hcell 3 _ hc (by omega)
  have k4 := hcell 4 _ hc (by omega)
  simp only [clO, Hc.cl, Cl.cells, List.getElem?_cons_succ, List.getElem?_cons_zero, Nat.add_zero] at k0 k1 k2 k3 k4
  have j0 : (0 : Int) ≤ id := by omega
  have j1 : (id : Int) < H.length := by omega
  have ho := g.ok id _ hc
  have hk : elB k > 0 := ho.1
  have cs : ∀ w, Calls Try.prog 43 #[.int .i64 k, .bool true] w fun e w' => e = .returned (.int .i64 4) ∧ w' = w := fun w => shape_view k hk w
  clear hcell
  have hB1 : Below W.heap.size W (W.alloc (.cells #[.int .i64 0, .bool false, .int .i64 0, .string ⟨#[]⟩, .slice none 0 0, .slice none 0 0, .int .u64 0, .int .i64 0, .int .i64 0] 32)) := (Below.refl _ W).alloc (Nat.le_refl _) _
  have hs1 : (W.alloc (.cells #[.int .i64 0, .bool false, .int .i64 0, .string ⟨#[]⟩, .slice none 0 0, .slice none 0 0, .int .u64 0, .int .i64 0, .int .i64 0] 32)).heap.size = W.heap.size + 1 := World.size_alloc ..
  have e1 := World.cell?_alloc_new W #[.int .i64 0, .bool false, .int .i64 0, .string ⟨#[]⟩, .slice none 0 0, .slice none 0 0, .int .u64 0, .int .i64 0, .int .i64 0] 32
  have f1 := World.alloc_heap_new W (.cells #[.int .i64 0, .bool false, .int .i64 0, .string ⟨#[]⟩, .slice none 0 0, .slice none 0 0, .int .u64 0, .int .i64 0, .int .i64 0] 32)
  go_enter Try.func58, Try.ntmps58
  go_upto_region 1 with fail
  have c1' := below_cell hB1 c1
  have k0' := below_cell hB1 k0
  have k1' := below_cell hB1 k1
  have k2' := below_cell hB1 k2
  have k3' := below_cell hB1 k3
  have k4' := below_cell hB1 k4
  generalize hW1 : W.alloc (.cells #[.int .i64 0, .bool false, .int .i64 0, .string ⟨#[]⟩, .slice none 0 0, .slice none 0 0, .int .u64 0, .int .i64 0, .int .i64 0] 32) = W1 at *
  clear c1 k0 k1 k2 k3 k4 hW1
  go_upto_region 2 with fail
  have hBc : Below W1.heap.size W1 (W1.alloc (.cells #[.int .i64 k, .bool true, .int .u64 ba, .int .i64 p, .int .i64 n] 92)) := (Below.refl _ W1).alloc (Nat.le_refl _) _
  have fC := World.alloc_heap_new W1 (.cells #[.int .i64 k, .bool true, .int .u64 ba, .int .i64 p, .int .i64 n] 92)
  rw [hs1] at fC
  have hsc : (W1.alloc (.cells #[.int .i64 k, .bool true, .int .u64 ba, .int .i64 p, .int .i64 n] 92)).heap.size = W.heap.size + 2 := by rw [World.size_alloc, hs1]
  generalize World.alloc W1 _ = Wc at *
  have eC := fun j => cell_of_row Wc (W.heap.size + 1) j _ _ _ fC
  go_upto_region 3 with (go_at_call 86; (with_reducible refine (bare_c k true ba p n _).mono ?_); rintro e wb ⟨rfl, hBb⟩)
  have hbz := hBb.size
  have fO := World.alloc_heap_new wb (.cells #[.int .i64 k, .bool true, .int .i64 0, .string ⟨#[]⟩, .slice none 0 0, .slice none 0 0, .int .u64 ba, .int .i64 p, .int .i64 n] 32)
  have hBd : Below wb.heap.size wb (wb.alloc (.cells #[.int .i64 k, .bool true, .int .i64 0, .string ⟨#[]⟩, .slice none 0 0, .slice none 0 0, .int .u64 ba, .int .i64 p, .int .i64 n] 32)) := (Below.refl _ wb).alloc (Nat.le_refl _) _
  have hB3 : Below W1.heap.size W1 (wb.alloc (.cells #[.int .i64 k, .bool true, .int .i64 0, .string ⟨#[]⟩, .slice none 0 0, .slice none 0 0, .int .u64 ba, .int .i64 p, .int .i64 n] 32)) := (hBc.trans (hBb.mono (by omega))).trans (hBd.mono (by omega))
  have fC3 := (hBd.block (W.heap.size + 1) (by omega)).trans ((hBb.block (W.heap.size + 1) (by omega)).trans fC)
  obtain ⟨nb, hnb⟩ : ∃ nb, wb.heap.size = nb := ⟨_, rfl⟩
  rw [hnb] at fO
  rw [hnb]
  have hO2 : W.heap.size + 2 ≤ nb := by omega
  clear hnb hBd hBb hBc fC eC hsc hbz
  generalize World.alloc wb _ = W3 at *
  have eO := fun j => cell_of_row W3 nb j _ _ _ fO
  have eC3 := fun j => cell_of_row W3 (W.heap.size + 1) j _ _ _ fC3
  have hs3 := (Array.getElem?_eq_some_iff.1 fO).1
  have hs2 := hs3
  clear fC3
  have eR3 : ∀ j, W3.cell? ⟨W.heap.size, j, none⟩ = #[.int .i64 0, .bool false, .int .i64 0, .string ⟨#[]⟩, .slice none 0 0, .slice none 0 0, .int .u64 0, .int .i64 0, .int .i64 0][j]? := by
    intro j
    rw [World.cell?_of_block (hB3.block W.heap.size (by omega))]
    exact e1 j
  have hBW : Below W.heap.size W W3 := hB1.trans (hB3.mono hB1.size)
  have g3 := g.below hBW
  have fR : W3.heap[W.heap.size]? = some (.cells #[.int .i64 0, .bool false, .int .i64 0, .string ⟨#[]⟩, .slice none 0 0, .slice none 0 0, .int .u64 0, .int .i64 0, .int .i64 0] 32) := (hB3.block W.heap.size (by omega)).trans f1
  have HBW := hid hBW
  have eR := fun j => cell_of_row W3 W.heap.size j _ _ _ fR
  have zR : ∀ j, W3.frozen? ⟨W.heap.size, j, none⟩ = false := fun j => by simp [World.frozen?, fR]
  have FR := hid fR
  clear fO eR3 fR g3 e1 c1' k0' k1' k2' k3' k4' f1 g ho hc hBW hB1 hB3 hs1 hs2 hs3 j0 j1 hk
  go_wp2_with (go_at_call 43; (with_reducible refine (cs _).mono ?_); rintro e w' ⟨rfl, hw⟩; (have hw' := hw.symm); subst hw'; clear hw)
  refine bodyPost_ret (cell_ret rfl _ _ W.heap.size _ _ _ _ _ _ _ _ _ (0, 0) rfl (nine_set FR.out _ _ _ _ _ _ _ _ _)) rfl ?_
  exact ⟨rfl, nine_below HBW.out (Nat.le_refl _) _ _ _ _ _ _ _ _ _⟩
theorem get_view (g : HLay W hb sb vc T H u h) (w : Nat) (hw : w < 18446744073709551616) (id : Nat) (hi : hit H w = some id) (k : Int) (ba p n : Nat) (hc : H[id]? = some (some (.view k ba p n))) :
    Calls Try.prog 27 #[.pointer (some ⟨hb, 0, none⟩), .int .u64 w] W fun e w' => e = .returned (.tuple #[.agg #[.int .i64 k, .bool true, .int .i64 0, .string ⟨#[]⟩, .slice none 0 0, .slice none 0 0, .int .u64 ba, .int .i64 p, .int .i64 n], .int .i64 0]) ∧ Below W.heap.size W w' :=
  get_c g w hw id hi k true 0 ⟨#[]⟩ none none 0 0 0 0 ba p n (fun w1 hB => load_view (g.below hB) id k ba p n hc)
end
end Go.Proofs.Ytaebnnkhjlidiab.W
/- Package heap: right and Put, of a buffer. -/
namespace Go.Proofs.Ytaebnnkhjlidiab.W
open Go.ChangeShapes Go.WideShapes Go.RowKit Go.Shelf
set_option linter.unusedVariables false
section
variable {W W' : World} {hb sb : Nat} {vc : Value} {T : Nat → Prop} {H : List (Option Hc)} {u h : Nat}
set_option maxHeartbeats 1000000 in
set_option maxRecDepth 100000 in
theorem right_buf (k : Int) (hk : elB k > 0) (ob ow : Option Addr) (bc wc nn : Nat) (hl : nn ≤ 8388608) (hmod : nn % elB k = 0) (hb : Nat) (W : World) : Calls Try.prog 20 #[.agg #[.int .i64 k, .bool false, .int .i64 0, .string ⟨#[]⟩, .slice ob nn bc, .slice ow 0 wc, .int .u64 0, .int .i64 0, .int .i64 0], (.func (.func 21) #[.pointer (some ⟨hb, 0, none⟩)] #[])] W fun e w' => e = .returned (.bool true) ∧ Below W.heap.size W w' := by
  have cp : ∀ w, Calls Try.prog 42 #[.agg #[.int .i64 k, .bool false, .int .i64 0, .string ⟨#[]⟩, .slice ob nn bc, .slice ow 0 wc, .int .u64 0, .int .i64 0, .int .i64 0]] w fun e w' => e = .returned (.bool true) ∧ Below w.heap.size w w' := fun w => plain_buf k hk ob ow nn bc wc w
  have cs : ∀ w, Calls Try.prog 43 #[.int .i64 k, .bool false] w fun e w' => e = .returned (.int .i64 3) ∧ w' = w := fun w => shape_buf k hk w
  have ce : ∀ w, Calls Try.prog 44 #[.int .i64 k] w fun e w' => e = .returned (.int .i64 (elB k : Nat)) ∧ w' = w := fun w => elementBytes_c k w
  have hB := (show Below W.heap.size W (W.alloc (.cells #[.int .i64 k, .bool false, .int .i64 0, .string ⟨#[]⟩, .slice ob nn bc, .slice ow 0 wc, .int .u64 0, .int .i64 0, .int .i64 0] 32)) from (Below.refl _ W).alloc (Nat.le_refl _) _)
  have hs1 : (W.alloc (.cells #[.int .i64 k, .bool false, .int .i64 0, .string ⟨#[]⟩, .slice ob nn bc, .slice ow 0 wc, .int .u64 0, .int .i64 0, .int .i64 0] 32)).heap.size = W.heap.size + 1 := World.size_alloc ..
  have l1 : (nn : Int) ≤ 8388608 := by omega
  generalize elB k = ev at *
  have hm2 : (nn : Int) % (ev : Int) = 0 := by omega
  have hm3 : Int.tmod (nn : Int) (ev : Int) = 0 := by rw [Int.tmod_eq_emod_of_nonneg (by omega)]; exact hm2
  have e0 : ¬ ((ev : Nat) : Int) = 0 := by omega
  have kp : Hid (∀ w2, Below (W.alloc (.cells #[.int .i64 k, .bool false, .int .i64 0, .string ⟨#[]⟩, .slice ob nn bc, .slice ow 0 wc, .int .u64 0, .int .i64 0, .int .i64 0] 32)).heap.size (W.alloc (.cells #[.int .i64 k, .bool false, .int .i64 0, .string ⟨#[]⟩, .slice ob nn bc, .slice ow 0 wc, .int .u64 0, .int .i64 0, .int .i64 0] 32)) w2 → (w2.cell? ⟨W.heap.size, 0, none⟩ = some (.int .i64 k) ∧ w2.cell? ⟨W.heap.size, 1, none⟩ = some (.bool false) ∧ w2.cell? ⟨W.heap.size, 4, none⟩ = some (.slice ob nn bc)) ∧ Below W.heap.size W w2) := by
    show ∀ w2, _
    intro w2 hB2
    have e := fun j => (World.cell?_of_block (a := ⟨W.heap.size, j, none⟩) (hB2.block W.heap.size (by omega))).trans (World.cell?_alloc_new W #[.int .i64 k, .bool false, .int .i64 0, .string ⟨#[]⟩, .slice ob nn bc, .slice ow 0 wc, .int .u64 0, .int .i64 0, .int .i64 0] 32 j)
    exact ⟨⟨e 0, e 1, e 4⟩, hB.trans (hB2.mono hB.size)⟩
  clear hs1 hmod hl hk
  go_enter Try.func20, Try.ntmps20
  go_upto_region 9 with (first | (go_at_call 42; (with_reducible refine (cp _).mono ?_); rintro e w2 ⟨rfl, hB2⟩; clear cp; (obtain ⟨⟨z0, z1, z4⟩, hBf⟩ := kp.out w2 hB2)) | (go_at_call 43; (with_reducible refine (cs _).mono ?_); rintro e w' ⟨rfl, hw⟩; (have hw' := hw.symm); subst hw'; clear hw))
  go_region_with (go_at_call 44; (with_reducible refine (ce _).mono ?_); rintro e w' ⟨rfl, hw⟩; (have hw' := hw.symm); subst hw'; clear hw)
  all_goals (
    simp only [Act.put, List.getElem_toArray, List.getElem_cons_zero, List.getElem_cons_succ, List.setIfInBounds_toArray, List.set_cons_zero, List.set_cons_succ]
    go_wp2
    go_ret
    exact ⟨rfl, ⟨hBf.os, hBf.tape, hBf.output, hBf.size, hBf.block⟩⟩)
theorem put_buf {S : Nat → Prop} (g : HSt W S hb H u) (hS : ∀ k, S k → k < W.heap.size) (k : Int) (hk : elB k > 0) (bs : List Nat) (hb256 : ∀ x ∈ bs, x < 256) (hl : bs.length ≤ 8388608) (hmod : bs.length % elB k = 0) (ob ow : Option Addr) (bc wc : Nat) (hcap : bs.length ≤ bc) (hv : ByteRow W ob bs) (ho : ∀ x, ob = some x → ¬ S x.block ∧ x.block < W.heap.size) (vr : Value) (rs : List Nat) (hr : WordsAt W vr rs) :
    Calls Try.prog 8 #[.pointer (some ⟨hb, 0, none⟩), .agg #[.int .i64 k, .bool false, .int .i64 0, .string ⟨#[]⟩, .slice ob bs.length bc, .slice ow 0 wc, .int .u64 0, .int .i64 0, .int .i64 0], vr] W (PutPost W S hb (roomH H u (.buf k bs) rs) u (.buf k bs)) := by
  refine hput_c g hS (.buf k bs) ⟨hk, hb256, hl⟩ 0 ⟨#[]⟩ ob ow bs.length bc 0 wc (by decide) hl (by decide) ?_ (words_nil W ow wc) (show 0 < _ by decide) ?_ ?_ vr rs hr
  · show sizeV k false 0 bs.length 0 = bs.length
    have e3 : shp k false = 3 := by
      unfold shp
      simp [hk]
    unfold sizeV
    rw [e3]; rfl
  · intro w hB
    exact right_buf k hk ob ow bc wc bs.length hl hmod hb w
  · intro sb h W' T' vc' H' id hl' hi hT hU
    have e : (Hc.buf k bs).zero = .buf k (List.replicate bs.length 0) := rfl
    rw [e] at hi
    exact save_buf hl' id k hk bs hb256 hi hl ob ow bc wc hcap (byteRow_upd hv hU (fun x e => (ho x e).1)) (fun x e => ⟨fun e2 => by rcases hT _ e2 with e3 | e3; exact (ho x e).1 e3; have := (ho x e).2; omega, Nat.lt_of_lt_of_le (ho x e).2 hU.size⟩)
end
end Go.Proofs.Ytaebnnkhjlidiab.W
/- Package heap: right and Put, of a view. -/
namespace Go.Proofs.Ytaebnnkhjlidiab.W
open Go.ChangeShapes Go.WideShapes Go.RowKit Go.Shelf
set_option linter.unusedVariables false
section
variable {W W' : World} {hb sb : Nat} {vc : Value} {T : Nat → Prop} {H : List (Option Hc)} {u h : Nat}
set_option maxRecDepth 100000 in
set_option maxHeartbeats 1000000 in
theorem rightView_c (g : HLay W hb sb vc T H u h) (k : Int) (hk : elB k > 0) (ob ow : Option Addr) (bc wc ba p n : Nat) (hba : ba < 18446744073709551616) (id : Nat) (hi : hit H ba = some id) (k2 : Int) (bs : List Nat) (hc : H[id]? = some (some (.buf k2 bs))) (hp : p ≤ bs.length) (hpm : p % elB k = 0) (hn : n ≤ (bs.length - p) / elB k) : Calls Try.prog 45 #[.agg #[.int .i64 k, .bool true, .int .i64 0, .string ⟨#[]⟩, .slice ob 0 bc, .slice ow 0 wc, .int .u64 ba, .int .i64 p, .int .i64 n], (.func (.func 21) #[.pointer (some ⟨hb, 0, none⟩)] #[])] W fun e w' => e = .returned (.bool true) ∧ Below W.heap.size W w' := by
  have hB1 : Below W.heap.size W (W.alloc (.cells #[.int .i64 k, .bool true, .int .i64 0, .string ⟨#[]⟩, .slice ob 0 bc, .slice ow 0 wc, .int .u64 ba, .int .i64 p, .int .i64 n] 32)) := (Below.refl _ W).alloc (Nat.le_refl _) _
  have e1 := World.cell?_alloc_new W #[.int .i64 k, .bool true, .int .i64 0, .string ⟨#[]⟩, .slice ob 0 bc, .slice ow 0 wc, .int .u64 ba, .int .i64 p, .int .i64 n] 32
  have hs1 : ((W.alloc (.cells #[.int .i64 k, .bool true, .int .i64 0, .string ⟨#[]⟩, .slice ob 0 bc, .slice ow 0 wc, .int .u64 ba, .int .i64 p, .int .i64 n] 32))).heap.size = W.heap.size + 1 := World.size_alloc ..
  have ga := g.below hB1
  have ok := g.ok id _ hc
  have hk2 : elB k2 > 0 := ok.1
  have hl8 : bs.length ≤ 8388608 := ok.2.2
  have e3 : shp k2 false = 3 := by
    unfold shp
    simp [hk2]
  have cf : Calls Try.prog 21 #[.pointer (some ⟨hb, 0, none⟩), .int .u64 ba] (W.alloc (.cells #[.int .i64 k, .bool true, .int .i64 0, .string ⟨#[]⟩, .slice ob 0 bc, .slice ow 0 wc, .int .u64 ba, .int .i64 p, .int .i64 n] 32)) fun e w' => e = .returned (.tuple #[.int .i64 3, .int .i64 bs.length, .bool true]) ∧ Below ((W.alloc (.cells #[.int .i64 k, .bool true, .int .i64 0, .string ⟨#[]⟩, .slice ob 0 bc, .slice ow 0 wc, .int .u64 ba, .int .i64 p, .int .i64 n] 32))).heap.size (W.alloc (.cells #[.int .i64 k, .bool true, .int .i64 0, .string ⟨#[]⟩, .slice ob 0 bc, .slice ow 0 wc, .int .u64 ba, .int .i64 p, .int .i64 n] 32)) w' := by
    refine (among_c ga ba hba).mono ?_
    rintro e w' ⟨⟨f, n, rfl, hx⟩, hB⟩
    obtain ⟨rfl, rfl⟩ := hx id _ hi hc
    rw [hi]
    refine ⟨?_, hB⟩
    show Ending.returned (.tuple #[.int .i64 (shp k2 false), .int .i64 bs.length, .bool true]) = _
    rw [e3]
  have ce : ∀ w, Calls Try.prog 44 #[.int .i64 k] w fun e w' => e = .returned (.int .i64 (elB k : Nat)) ∧ w' = w := fun w => elementBytes_c k w
  have kp : Hid (∀ w2, Below ((W.alloc (.cells #[.int .i64 k, .bool true, .int .i64 0, .string ⟨#[]⟩, .slice ob 0 bc, .slice ow 0 wc, .int .u64 ba, .int .i64 p, .int .i64 n] 32))).heap.size (W.alloc (.cells #[.int .i64 k, .bool true, .int .i64 0, .string ⟨#[]⟩, .slice ob 0 bc, .slice ow 0 wc, .int .u64 ba, .int .i64 p, .int .i64 n] 32)) w2 → (∀ j, w2.cell? ⟨W.heap.size, j, none⟩ = #[.int .i64 k, .bool true, .int .i64 0, .string ⟨#[]⟩, .slice ob 0 bc, .slice ow 0 wc, .int .u64 ba, .int .i64 p, .int .i64 n][j]?) ∧ Below W.heap.size W w2) := by
    show ∀ w2, _
    intro w2 hB2
    exact ⟨fun j => (World.cell?_of_block (a := ⟨W.heap.size, j, none⟩) (hB2.block W.heap.size (by omega))).trans (e1 j), hB1.trans (hB2.mono hB1.size)⟩
  clear ok hc g ga hB1 e1 hs1
  generalize hev : elB k = ev at *
  generalize hnn : bs.length = nn at *
  have e0 : ¬ ((ev : Nat) : Int) = 0 := by omega
  have p0 : ¬ (p : Int) < 0 := by omega
  have p1 : ¬ (p : Int) > nn := by omega
  have p2 : Int.tmod (p : Int) (ev : Int) = 0 := by rw [Int.tmod_eq_emod_of_nonneg (by omega)]; omega
  have p3 : IntKind.i64.wrap ((nn : Int) - p) = ((nn - p : Nat) : Int) := by rw [IntKind.wrap_i64]; omega
  have p4 : Int.tdiv ((nn - p : Nat) : Int) (ev : Int) = (((nn - p) / ev : Nat) : Int) := by rw [Int.tdiv_eq_ediv_of_nonneg (by omega)]; omega
  have n0 : (n : Int) ≥ 0 := by omega
  have n1 : (n : Int) ≤ (((nn - p) / ev : Nat) : Int) := by omega
  have hQ : (nn - p) / ev ≤ 8388608 := by have := Nat.div_le_self (nn - p) ev; omega
  have wQ : wrap64 (((nn - p) / ev : Nat) : Int) = (((nn - p) / ev : Nat) : Int) := by unfold wrap64; omega
  generalize (nn - p) / ev = Q at *
  generalize nn - p = D at *
  clear hp hpm hn hk hk2 hev hnn hi e3
  go_enter Try.func45, Try.ntmps45
  go_upto_region 7 with (first | (go_at_call 21; (with_reducible refine cf.mono ?_); rintro e w2 ⟨rfl, hB2⟩; clear cf; (obtain ⟨z, hBf⟩ := kp.out w2 hB2); (have HBf := hid hBf); clear hBf hB2 kp) | (go_at_call 44; (with_reducible refine (ce _).mono ?_); rintro e w' ⟨rfl, hw⟩; (have hw' := hw.symm); subst hw'; clear hw))
  go_quiet (fail)
  go_wp2
  go_ret
  exact ⟨rfl, ⟨HBf.out.os, HBf.out.tape, HBf.out.output, HBf.out.size, HBf.out.block⟩⟩
set_option maxRecDepth 100000 in
theorem right_view (g : HLay W hb sb vc T H u h) (k : Int) (hk : elB k > 0) (ob ow : Option Addr) (bc wc ba p n : Nat) (hba : ba < 18446744073709551616) (id : Nat) (hi : hit H ba = some id) (k2 : Int) (bs : List Nat) (hc : H[id]? = some (some (.buf k2 bs))) (hp : p ≤ bs.length) (hpm : p % elB k = 0) (hn : n ≤ (bs.length - p) / elB k) : Calls Try.prog 20 #[.agg #[.int .i64 k, .bool true, .int .i64 0, .string ⟨#[]⟩, .slice ob 0 bc, .slice ow 0 wc, .int .u64 ba, .int .i64 p, .int .i64 n], (.func (.func 21) #[.pointer (some ⟨hb, 0, none⟩)] #[])] W fun e w' => e = .returned (.bool true) ∧ Below W.heap.size W w' := by
  have cp : ∀ w, Calls Try.prog 42 #[.agg #[.int .i64 k, .bool true, .int .i64 0, .string ⟨#[]⟩, .slice ob 0 bc, .slice ow 0 wc, .int .u64 ba, .int .i64 p, .int .i64 n]] w fun e w' => e = .returned (.bool true) ∧ Below w.heap.size w w' := fun w => plain_view k hk ob ow bc wc ba p n w
  have cs : ∀ w, Calls Try.prog 43 #[.int .i64 k, .bool true] w fun e w' => e = .returned (.int .i64 4) ∧ w' = w := fun w => shape_view k hk w
  have hB := (show Below W.heap.size W (W.alloc (.cells #[.int .i64 k, .bool true, .int .i64 0, .string ⟨#[]⟩, .slice ob 0 bc, .slice ow 0 wc, .int .u64 ba, .int .i64 p, .int .i64 n] 32)) from (Below.refl _ W).alloc (Nat.le_refl _) _)
  have hs1 : ((W.alloc (.cells #[.int .i64 k, .bool true, .int .i64 0, .string ⟨#[]⟩, .slice ob 0 bc, .slice ow 0 wc, .int .u64 ba, .int .i64 p, .int .i64 n] 32))).heap.size = W.heap.size + 1 := World.size_alloc ..
  have cv : ∀ w, Below W.heap.size W w → Calls Try.prog 45 #[.agg #[.int .i64 k, .bool true, .int .i64 0, .string ⟨#[]⟩, .slice ob 0 bc, .slice ow 0 wc, .int .u64 ba, .int .i64 p, .int .i64 n], (.func (.func 21) #[.pointer (some ⟨hb, 0, none⟩)] #[])] w fun e w' => e = .returned (.bool true) ∧ Below w.heap.size w w' := fun w hb' => rightView_c (g.below hb') k hk ob ow bc wc ba p n hba id hi k2 bs hc hp hpm hn
  have kp : Hid (∀ w2, Below ((W.alloc (.cells #[.int .i64 k, .bool true, .int .i64 0, .string ⟨#[]⟩, .slice ob 0 bc, .slice ow 0 wc, .int .u64 ba, .int .i64 p, .int .i64 n] 32))).heap.size (W.alloc (.cells #[.int .i64 k, .bool true, .int .i64 0, .string ⟨#[]⟩, .slice ob 0 bc, .slice ow 0 wc, .int .u64 ba, .int .i64 p, .int .i64 n] 32)) w2 → (∀ j, w2.cell? ⟨W.heap.size, j, none⟩ = #[.int .i64 k, .bool true, .int .i64 0, .string ⟨#[]⟩, .slice ob 0 bc, .slice ow 0 wc, .int .u64 ba, .int .i64 p, .int .i64 n][j]?) ∧ Below W.heap.size W w2) := by
    show ∀ w2, _
    intro w2 hB2
    exact ⟨fun j => (World.cell?_of_block (a := ⟨W.heap.size, j, none⟩) (hB2.block W.heap.size (by omega))).trans (World.cell?_alloc_new W #[.int .i64 k, .bool true, .int .i64 0, .string ⟨#[]⟩, .slice ob 0 bc, .slice ow 0 wc, .int .u64 ba, .int .i64 p, .int .i64 n] 32 j), hB.trans (hB2.mono hB.size)⟩
  clear hs1 hk hc hp hpm hn hi g hB
  go_enter Try.func20, Try.ntmps20
  go_wp2_with (first | (go_at_call 42; (with_reducible refine (cp _).mono ?_); rintro e w2 ⟨rfl, hB2⟩; clear cp; (obtain ⟨z, hBf⟩ := kp.out w2 hB2); (have HBf := hid hBf); clear hBf hB2) | (go_at_call 43; (with_reducible refine (cs _).mono ?_); rintro e w' ⟨rfl, hw⟩; (have hw' := hw.symm); subst hw'; clear hw) | (go_at_call 45; (with_reducible refine (cv _ HBf.out).mono ?_); rintro e w3 ⟨rfl, hB3⟩; clear cv))
  go_ret
  exact ⟨rfl, HBf.out.trans (hB3.mono HBf.out.size)⟩
theorem put_view {S : Nat → Prop} (g : HSt W S hb H u) (hS : ∀ k, S k → k < W.heap.size) (k : Int) (hk : elB k > 0) (ba p n : Nat) (hba : ba < 18446744073709551616) (id : Nat) (hi : hit H ba = some id) (k2 : Int) (bs : List Nat) (hc : H[id]? = some (some (.buf k2 bs))) (hp : p ≤ bs.length) (hpm : p % elB k = 0) (hn : n ≤ (bs.length - p) / elB k) (ob ow : Option Addr) (bc wc : Nat) (vr : Value) (rs : List Nat) (hr : WordsAt W vr rs) :
    Calls Try.prog 8 #[.pointer (some ⟨hb, 0, none⟩), .agg #[.int .i64 k, .bool true, .int .i64 0, .string ⟨#[]⟩, .slice ob 0 bc, .slice ow 0 wc, .int .u64 ba, .int .i64 p, .int .i64 n], vr] W (PutPost W S hb (roomH H u (.view k ba p n) rs) u (.view k ba p n)) := by
  obtain ⟨sb0, vc0, T0, g1⟩ := g.lay
  have ok := g1.ok id _ hc
  have hl8 : bs.length ≤ 8388608 := ok.2.2
  have hn8 : n ≤ 8388608 := by
    have := Nat.div_le_self (bs.length - p) (elB k)
    omega
  refine hput_c g hS (.view k ba p n) ⟨hk, hba, by omega, hn8⟩ 0 ⟨#[]⟩ ob ow 0 bc 0 wc (by decide) (by decide) (by decide) ?_ (words_nil W ow wc) hba ?_ ?_ vr rs hr
  · show sizeV k true 0 0 0 = 0
    have e4 : shp k true = 4 := by
      unfold shp
      simp [hk]
    unfold sizeV
    rw [e4]; rfl
  · intro w hB
    exact right_view (g1.below hB) k hk ob ow bc wc ba p n hba id hi k2 bs hc hp hpm hn
  · intro sb h W' T' vc' H' id' hl' hi' hT hU
    have e : (Hc.view k ba p n).zero = .view k ba p n := rfl
    rw [e] at hi'
    refine (save_view hb id' k hk ob ow bc wc ba p n W').mono ?_
    rintro e w' ⟨rfl, hB⟩
    have es : H'.set id' (some (.view k ba p n)) = H' := by
      apply List.ext_getElem?
      intro i
      by_cases c : i = id'
      · subst c; rw [List.getElem?_set_self (List.getElem?_eq_some_iff.1 hi').1, hi']
      · rw [List.getElem?_set_ne (Ne.symm c)]
    rw [es]
    exact ⟨rfl, Upd.of_below hB, hl'.below hB⟩
end
end Go.Proofs.Ytaebnnkhjlidiab.W
/- Package heap: where bytes stand (place); Read, Write, of buffers and views; Set. -/
namespace Go.Proofs.Ytaebnnkhjlidiab.W
open Go.ChangeShapes Go.WideShapes Go.RowKit Go.Shelf
set_option linter.unusedVariables false
section
variable {W W' : World} {hb sb : Nat} {vc : Value} {T : Nat → Prop} {H : List (Option Hc)} {u h : Nat}
end
end Go.Proofs.Ytaebnnkhjlidiab.W
/- Package heap: place, of a view; Read, Write, of buffers and views; Set. -/
namespace Go.Proofs.Ytaebnnkhjlidiab.W
open Go.ChangeShapes Go.WideShapes Go.RowKit Go.Shelf
set_option linter.unusedVariables false
section
variable {W W' : World} {hb sb : Nat} {vc : Value} {T : Nat → Prop} {H : List (Option Hc)} {u h : Nat}
/-- where the elements of a thing of bytes stand: cell t, of kind k2 and with the bytes bs, from p on; n bytes -/
structure Spot (H : List (Option Hc)) (w : Nat) (k : Int) (t p n : Nat) (k2 : Int) (bs : List Nat) : Prop where
  w64 : w < 18446744073709551616
  cell : H[t]? = some (some (.buf k2 bs))
  fit : p + n ≤ bs.length
  road : ∃ id, hit H w = some id ∧ ((H[id]? = some (some (.buf k bs)) ∧ t = id ∧ p = 0 ∧ n = bs.length ∧ k2 = k) ∨ ∃ ba c, H[id]? = some (some (.view k ba p c)) ∧ hit H ba = some t ∧ n = c * elB k)
end
/-- a cell is another one of the same need: over a heap that was made -/
theorem sumH_same {H : List (Option Hc)} {i : Nat} {c d : Hc} (hc : H[i]? = some (some c)) (hn : d.need = c.need) : sumH (H.set i (some d)) = sumH H := by
  have hl := (List.getElem?_eq_some_iff.1 hc).1
  have e := (List.getElem?_eq_some_iff.1 hc).2
  have := sumH_set H i (some d) hl
  rw [e] at this
  simp only [needO] at this
  omega
section
variable {W0 W W1 W' : World} {hb : Nat} {H : List (Option Hc)} {u : Nat} {K : Nat → Prop}
/-- what a call that writes into the store leaves, told over Hf -/
theorem hf_calls {f : FuncId} {args : Array Value} {v : Value} {H' : List (Option Hc)} (q : Hf W0 W1 hb H u K) (hs : sumH H' = sumH H)
    (h : ∀ sb vc T, HLay W1 hb sb vc T H u (sumH H) → Calls Try.prog f args W1 fun e w' => e = .returned v ∧ Upd T W1 w' ∧ HLay w' hb sb vc T H' u (sumH H)) :
    Calls Try.prog f args W1 fun e w' => e = .returned v ∧ Hf W0 w' hb H' u K ∧ Upd (Ch W0 K) W1 w' := by
  obtain ⟨h1, S, ⟨sb, vc, T, l, s1, s2, s3, s4⟩, h3, h4⟩ := q
  refine (h sb vc T l).mono ?_
  rintro e w' ⟨rfl, hU, hL⟩
  have hU' : Upd S W1 w' := hU.mono s3
  have hst : HSt w' (Nx S W1 w') hb H' u := ⟨sb, vc, T, by rw [hs]; exact hL, .inl s1, fun k e => .inl (s2 k e), fun k e => .inl (s3 k e), by omega⟩
  exact ⟨rfl, Hf.put h1 h3 h4 hU' hst⟩
theorem buf_need (k k' : Int) (b b' : List Nat) (h : b'.length = b.length) : (Hc.buf k' b').need = (Hc.buf k b).need := by
  unfold Hc.need
  show 1 + (b'.length + 7) / 8 = 1 + (b.length + 7) / 8
  rw [h]
theorem row_need2 (b b' : List Nat) (h : b'.length = b.length) : (Hc.row b').need = (Hc.row b).need := by
  unfold Hc.need
  show 1 + ((b'.flatMap le8).length + 7) / 8 = 1 + ((b.flatMap le8).length + 7) / 8
  rw [row_len, row_len, h]
theorem Hf.lay (q : Hf W0 W1 hb H u K) : ∃ sb vc T, HLay W1 hb sb vc T H u (sumH H) := by
  obtain ⟨_, S, h2, _⟩ := q
  exact h2.lay
end
end Go.Proofs.Ytaebnnkhjlidiab.W
/- Put of buffers and rows, beside what a statement keeps. -/
namespace Go.Proofs.Ytaebnnkhjlidiab.W
open Go.ChangeShapes Go.WideShapes Go.RowKit Go.Shelf
set_option linter.unusedVariables false
section
variable {W0 W W1 W' : World} {hb : Nat} {H : List (Option Hc)} {u : Nat} {K K' : Nat → Prop}
/-- whatever is put and fits -/
theorem Hf.fits {S : Nat → Prop} {c : Hc} {rs : List Nat} {e : Ending} {w' : World} (h1 : Below W0.heap.size W0 W1) (h3 : ∀ k, S k → W0.heap.size ≤ k ∧ k < W1.heap.size) (h4 : ∀ k, K k → k < W1.heap.size ∧ ¬ S k) (hf : sumH H + c.need ≤ u) (hP : PutPost W1 S hb (roomH H u c rs) u c e w') : e = .returned (.tuple #[.int .u64 (hw (lid H) : Nat), .int .i64 0]) ∧ Hf W0 w' hb (putH H (lid H) (some c)) u K ∧ Upd (Ch W0 K) W1 w' := by
  have hrm : roomH H u c rs = H := by unfold roomH; rw [if_pos hf]
  rw [hrm] at hP
  obtain ⟨hU, ⟨_, rfl, g⟩ | ⟨hn, _⟩⟩ := hP
  · exact ⟨rfl, Hf.put h1 h3 h4 hU g⟩
  · omega
theorem hf_buf (q : Hf W0 W1 hb H u K) (k : Int) (hk : elB k > 0) (bs : List Nat) (hb256 : ∀ x ∈ bs, x < 256) (hl : bs.length ≤ 8388608) (hmod : bs.length % elB k = 0) (ob ow : Option Addr) (bc wc : Nat) (hcap : bs.length ≤ bc) (hv : ByteRow W1 ob bs) (ho : ∀ x, ob = some x → K x.block) (hf : sumH H + (Hc.buf k bs).need ≤ u) (vr : Value) (rs : List Nat) (hr : WordsAt W1 vr rs) :
    Calls Try.prog 8 #[.pointer (some ⟨hb, 0, none⟩), .agg #[.int .i64 k, .bool false, .int .i64 0, .string ⟨#[]⟩, .slice ob bs.length bc, .slice ow 0 wc, .int .u64 0, .int .i64 0, .int .i64 0], vr] W1 fun e w' => e = .returned (.tuple #[.int .u64 (hw (lid H) : Nat), .int .i64 0]) ∧ Hf W0 w' hb (putH H (lid H) (some (.buf k bs))) u K ∧ Upd (Ch W0 K) W1 w' := by
  obtain ⟨h1, S, h2, h3, h4⟩ := q
  exact (put_buf h2 (fun k e => (h3 k e).2) k hk bs hb256 hl hmod ob ow bc wc hcap hv (fun x e => ⟨(h4 _ (ho x e)).2, (h4 _ (ho x e)).1⟩) vr rs hr).mono (fun e w' hP => Hf.fits h1 h3 h4 hf hP)
theorem hf_row (q : Hf W0 W1 hb H u K) (ws : List Nat) (hl : ws.length ≤ 1048576) (hv64 : ∀ w ∈ ws, w < 18446744073709551616) (hval : ∀ w ∈ ws, isVal H w = true) (ow : Option Addr) (wc : Nat) (hv : WordsAt W1 (.slice ow ws.length wc) ws) (ho : ∀ x, ow = some x → K x.block) (hf : sumH H + (Hc.row ws).need ≤ u) (vr : Value) (rs : List Nat) (hr : WordsAt W1 vr rs) :
    Calls Try.prog 8 #[.pointer (some ⟨hb, 0, none⟩), .agg #[.int .i64 9, .bool false, .int .i64 0, .string ⟨#[]⟩, .slice none 0 0, .slice ow ws.length wc, .int .u64 0, .int .i64 0, .int .i64 0], vr] W1 fun e w' => e = .returned (.tuple #[.int .u64 (hw (lid H) : Nat), .int .i64 0]) ∧ Hf W0 w' hb (putH H (lid H) (some (.row ws))) u K ∧ Upd (Ch W0 K) W1 w' := by
  obtain ⟨h1, S, h2, h3, h4⟩ := q
  refine (put_row h2 (fun k e => (h3 k e).2) ws hl hv64 hval none ow 0 wc hv ?_ vr rs hr).mono (fun e w' hP => Hf.fits h1 h3 h4 hf hP)
  intro o n cap e k
  cases e
  have := h4 _ (ho o rfl)
  rcases k with k | k
  · exact this.2 k
  · omega
end
end Go.Proofs.Ytaebnnkhjlidiab.W
