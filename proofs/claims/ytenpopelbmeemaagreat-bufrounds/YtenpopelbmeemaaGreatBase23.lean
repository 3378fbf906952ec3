import Derived.Test.YtenpopelbmeemaaGreatBase22
import Derived.Test.YtenpopelbmeemaaGreatBase21
/- A heap that a statement made itself: what Put and Reach do to it. -/
namespace Go.Proofs.YtenpopelbmeemaaGreat.W
open Go.ChangeShapes Go.WideShapes Go.RowKit Go.Shelf
set_option linter.unusedVariables false
/-- a heap that was made behind W0 -/
def Hs (W0 W : World) (hb : Nat) (H : List (Option Hc)) (u : Nat) : Prop := Below W0.heap.size W0 W ∧ HSt W (fun k => W0.heap.size ≤ k ∧ k < W.heap.size) hb H u
section
variable {W0 W W1 W' : World} {hb : Nat} {H : List (Option Hc)} {u : Nat}
theorem Hs.bel (q : Hs W0 W hb H u) : Below W0.heap.size W0 W := q.1
theorem Hs.below (q : Hs W0 W hb H u) (hB : Below W.heap.size W W') : Hs W0 W' hb H u := by
  have h1 := q.1.size
  have h2 := hB.size
  exact ⟨q.1.trans (hB.mono h1), (q.2.below hB).mono (fun k e => ⟨e.1, by omega⟩)⟩
theorem Hs.upd {H' : List (Option Hc)} (q : Hs W0 W hb H u) (hB : Below W.heap.size W W1) (hU : Upd (fun k => W0.heap.size ≤ k ∧ k < W.heap.size) W1 W') (g : HSt W' (Nx (fun k => W0.heap.size ≤ k ∧ k < W.heap.size) W1 W') hb H' u) : Hs W0 W' hb H' u := by
  have h1 := q.1.size
  have h2 := hB.size
  have h3 := hU.size
  have b1 : Below W0.heap.size W1 W' := hU.below (by omega) (fun k e => e.1)
  refine ⟨(q.1.trans (hB.mono h1)).trans b1, g.mono ?_⟩
  rintro k (e | e)
  · exact ⟨e.1, by omega⟩
  · exact ⟨by omega, e.2⟩
/-- what Put answers and leaves -/
def HsPost (W0 : World) (hb : Nat) (H1 : List (Option Hc)) (u : Nat) (c : Hc) (e : Ending) (w' : World) : Prop := (sumH H1 + c.need ≤ u ∧ e = .returned (.tuple #[.int .u64 (hw (lid H1) : Nat), .int .i64 0]) ∧ Hs W0 w' hb (putH H1 (lid H1) (some c)) u) ∨ (u < sumH H1 + c.need ∧ e = .returned (.tuple #[.int .u64 0, .int .i64 40]) ∧ Hs W0 w' hb H1 u)
theorem HsPost.fits {c : Hc} {rs : List Nat} {e : Ending} (h : HsPost W0 hb (roomH H u c rs) u c e W') (hf : sumH H + c.need ≤ u) : e = .returned (.tuple #[.int .u64 (hw (lid H) : Nat), .int .i64 0]) ∧ Hs W0 W' hb (putH H (lid H) (some c)) u := by
  have hr : roomH H u c rs = H := by unfold roomH; rw [if_pos hf]
  rw [hr] at h
  rcases h with ⟨_, h2, h3⟩ | ⟨h2, _⟩
  · exact ⟨h2, h3⟩
  · omega
theorem Hs.post {c : Hc} {H1 : List (Option Hc)} {e : Ending} (q : Hs W0 W hb H u) (hB : Below W.heap.size W W1) (h : PutPost W1 (fun k => W0.heap.size ≤ k ∧ k < W.heap.size) hb H1 u c e W') : HsPost W0 hb H1 u c e W' := by
  obtain ⟨hU, ⟨a, b, c⟩ | ⟨a, b, c⟩⟩ := h
  · exact .inl ⟨a, b, q.upd hB hU c⟩
  · exact .inr ⟨a, b, q.upd hB hU c⟩
end
end Go.Proofs.YtenpopelbmeemaaGreat.W
/- Package value: Box, of plain values. -/
namespace Go.Proofs.YtenpopelbmeemaaGreat.W
open Go.ChangeShapes Go.WideShapes Go.RowKit Go.Shelf
set_option linter.unusedVariables false
theorem vright_c (kd i bi re : Int) (t : ByteArray) (h : PV kd i bi re t) (W : World) : Calls Tryz.prog 25 #[.agg #[.int .i64 kd, .int .i64 i, .int .u64 bi, .string t, .int .u64 re]] W fun e w' => e = .returned (.bool true) ∧ Below W.heap.size W w' := by
  rcases h with ⟨rfl, rfl, rfl, rfl, rfl⟩ | ⟨rfl, hi, rfl, rfl, rfl⟩ | ⟨rfl, rfl, rfl, rfl⟩ | ⟨rfl, rfl, rfl, rfl⟩ | ⟨rfl, rfl, rfl, rfl⟩
  · go_enter Tryz.func25, Tryz.ntmps25
    go_wp2
    go_ret
    exact ⟨rfl, ((Below.refl _ W).alloc (Nat.le_refl _) _).alloc (by simp) _⟩
  · rcases hi with rfl | rfl
    · go_enter Tryz.func25, Tryz.ntmps25
      go_wp2
      go_ret
      exact ⟨rfl, ((Below.refl _ W).alloc (Nat.le_refl _) _).alloc (by simp) _⟩
    · go_enter Tryz.func25, Tryz.ntmps25
      go_wp2
      go_ret
      exact ⟨rfl, ((Below.refl _ W).alloc (Nat.le_refl _) _).alloc (by simp) _⟩
  · go_enter Tryz.func25, Tryz.ntmps25
    go_wp2
    go_ret
    exact ⟨rfl, ((Below.refl _ W).alloc (Nat.le_refl _) _).alloc (by simp) _⟩
  · go_enter Tryz.func25, Tryz.ntmps25
    go_wp2
    go_ret
    exact ⟨rfl, ((Below.refl _ W).alloc (Nat.le_refl _) _).alloc (by simp) _⟩
  · go_enter Tryz.func25, Tryz.ntmps25
    go_wp2
    go_ret
    exact ⟨rfl, ((Below.refl _ W).alloc (Nat.le_refl _) _).alloc (by simp) _⟩
theorem boxInt_small (hp vr : Value) (i : Int) (h0 : -9223372036854775808 ≤ i) (h1 : i ≤ 9223372036854775807) (hs : smallB i = true) (W : World) : Calls Tryz.prog 28 #[hp, .int .i64 i, vr] W fun e w' => e = .returned (.tuple #[.int .u64 (intW i), .int .i64 0]) ∧ w' = W := by
  have cf := fromInt_c i h0 h1 W
  rw [hs] at cf
  go_enter Tryz.func28, Tryz.ntmps28
  go_wp2_with (go_at_call 53; (with_reducible refine cf.mono ?_); rintro e w' ⟨rfl, hw⟩; (have hw' := hw.symm); subst hw'; clear hw)
  go_ret2
  exact ⟨rfl, rfl⟩
section
variable {W0 W W1 : World} {hb : Nat} {H : List (Option Hc)} {u : Nat}
end
end Go.Proofs.YtenpopelbmeemaaGreat.W
/- Package value: Box, Unbox. -/
namespace Go.Proofs.YtenpopelbmeemaaGreat.W
open Go.ChangeShapes Go.WideShapes Go.RowKit Go.Shelf
set_option linter.unusedVariables false
/-- behind right the value's box is as it was -/
theorem vbox (kd i bi re : Int) (t : ByteArray) (W : World) : ∀ w2, Below ((W.alloc (.cells #[.int .i64 kd, .int .i64 i, .int .u64 bi, .string t, .int .u64 re] 33))).heap.size (W.alloc (.cells #[.int .i64 kd, .int .i64 i, .int .u64 bi, .string t, .int .u64 re] 33)) w2 → (∀ j, w2.cell? ⟨W.heap.size, j, none⟩ = #[.int .i64 kd, .int .i64 i, .int .u64 bi, .string t, .int .u64 re][j]?) ∧ Below W.heap.size W w2 := by
  intro w2 hB2
  have hB1 : Below W.heap.size W (W.alloc (.cells #[.int .i64 kd, .int .i64 i, .int .u64 bi, .string t, .int .u64 re] 33)) := (Below.refl _ W).alloc (Nat.le_refl _) _
  have hs1 : ((W.alloc (.cells #[.int .i64 kd, .int .i64 i, .int .u64 bi, .string t, .int .u64 re] 33))).heap.size = W.heap.size + 1 := World.size_alloc ..
  refine ⟨fun j => ?_, hB1.trans (hB2.mono hB1.size)⟩
  rw [World.cell?_of_block (hB2.block W.heap.size (by omega))]
  exact World.cell?_alloc_new W #[.int .i64 kd, .int .i64 i, .int .u64 bi, .string t, .int .u64 re] 33 j
theorem box_float (hp vr : Value) (bi : Int) (h0 : 0 ≤ bi) (h1 : bi < 18446744073709551616) (W : World) : Calls Tryz.prog 9 #[hp, .agg #[.int .i64 3, .int .i64 0, .int .u64 bi, .string ⟨#[]⟩, .int .u64 0], vr] W fun e w' => e = .returned (.tuple #[.int .u64 (fltW bi), .int .i64 0]) ∧ Below W.heap.size W w' := by
  have cr := vright_c 3 0 bi 0 ⟨#[]⟩ (.inr (.inr (.inr (.inl ⟨rfl, rfl, rfl, rfl⟩)))) (W.alloc (.cells #[.int .i64 3, .int .i64 0, .int .u64 bi, .string ⟨#[]⟩, .int .u64 0] 33))
  have vb := hid (vbox 3 0 bi 0 ⟨#[]⟩ W)
  go_enter Tryz.func9, Tryz.ntmps9
  go_wp2_with (first | (go_at_call 25; (with_reducible refine cr.mono ?_); rintro e w2 ⟨rfl, hB2⟩; clear cr; (obtain ⟨n9, hB⟩ := vb.out w2 hB2); (have m0 := n9 0); (have m1 := n9 1); (have m2 := n9 2); (have m3 := n9 3); clear n9; (simp only [List.getElem?_toArray, List.getElem?_cons_succ, List.getElem?_cons_zero] at m0 m1 m2 m3)) | (go_at_call 29; (with_reducible refine (fromFloat_c bi h0 h1 _).mono ?_); rintro e w' ⟨rfl, hw⟩; (have hw' := hw.symm); subst hw'; clear hw))
  go_ret2
  exact ⟨rfl, hB⟩
theorem box_int (hp vr : Value) (i : Int) (P : World → Ending → World → Prop) (hP : ∀ w e w', P w e w' → ∃ x y, e = .returned (.tuple #[.int .u64 x, .int .i64 y])) (W : World) (ci : ∀ w, Below W.heap.size W w → Calls Tryz.prog 28 #[hp, .int .i64 i, vr] w (P w)) : Calls Tryz.prog 9 #[hp, .agg #[.int .i64 2, .int .i64 i, .int .u64 0, .string ⟨#[]⟩, .int .u64 0], vr] W fun e w' => ∃ w, Below W.heap.size W w ∧ P w e w' := by
  have cr := vright_c 2 i 0 0 ⟨#[]⟩ (.inr (.inr (.inl ⟨rfl, rfl, rfl, rfl⟩))) (W.alloc (.cells #[.int .i64 2, .int .i64 i, .int .u64 0, .string ⟨#[]⟩, .int .u64 0] 33))
  have vb := hid (vbox 2 i 0 0 ⟨#[]⟩ W)
  go_enter Tryz.func9, Tryz.ntmps9
  go_wp2_with (first | (go_at_call 25; (with_reducible refine cr.mono ?_); rintro e w2 ⟨rfl, hB2⟩; clear cr; (obtain ⟨n9, hB⟩ := vb.out w2 hB2); (have m0 := n9 0); (have m1 := n9 1); (have m2 := n9 2); (have m3 := n9 3); clear n9; (simp only [List.getElem?_toArray, List.getElem?_cons_succ, List.getElem?_cons_zero] at m0 m1 m2 m3)) | (go_at_call 28; (with_reducible refine (ci _ hB).mono ?_); intro e w3 h3; (obtain ⟨x, y, rfl⟩ := hP _ _ _ h3)))
  go_ret2
  exact ⟨_, hB, h3⟩
end Go.Proofs.YtenpopelbmeemaaGreat.W
/- Package heap: Look. -/
namespace Go.Proofs.YtenpopelbmeemaaGreat.W
open Go.ChangeShapes Go.WideShapes Go.RowKit Go.Shelf
set_option linter.unusedVariables false
section
variable {W W' : World} {hb sb : Nat} {vc : Value} {T : Nat → Prop} {H : List (Option Hc)} {u h : Nat}
theorem results_cell_tmp2 {fn : Func} {p q r : Tmp} {ty : TypeId} (h : fn.results = #[.cell p ty, .tmp q, .tmp r]) (tmps : Array Value) (P : Program) (w : World) :
    (results fn tmps).run P w = ((asAddr (tmps.getD p undef)).run P w).andThen fun a w₁ => ((loadVar ty a).run P w₁).andThen fun v w₂ => .ok (.tuple #[v, tmps.getD q undef, tmps.getD r undef]) w₂ := by
  simp only [results, h]
  simp [Sem.run_bind, Result.andThen]
theorem cell_ret3 {fn : Func} {p q r : Tmp} (h : fn.results = #[.cell p 43, .tmp q, .tmp r]) (tmps : Array Value) (w : World) (gb : Nat) (v0 v1 v2 v3 v4 v5 v6 v7 v8 : Value) (fr : Nat × Nat) (hp : tmps.getD p undef = .pointer (some ⟨gb, 0, none⟩)) (hg : w.heap[gb]? = some (.cells #[v0, v1, v2, v3, v4, v5, v6, v7, v8] 43 fr)) : (results fn tmps).run Tryz.prog w = .ok (.tuple #[.agg #[v0, v1, v2, v3, v4, v5, v6, v7, v8], tmps.getD q undef, tmps.getD r undef]) w := by
  have ht := cellT
  rw [results_cell_tmp2 h, hp]
  cases hu : Tryz.prog.underlying 43 with
  | none => rw [hu] at ht; cases ht
  | some d =>
    rw [hu] at ht
    simp only [Option.map_some, Option.some.injEq] at ht
    have hl := run_loadVar_row (P := Tryz.prog) w gb 43 43 #[v0, v1, v2, v3, v4, v5, v6, v7, v8] fr d hg hu (by cases d <;> first | rfl | exact ht) (by rw [cellSz]; rfl)
    simp [asAddr, hl]
/-- a cell without what Get would copy, and how many bytes that has -/
theorem look_c (g : HLay W hb sb vc T H u h) (w : Nat) (hw : w < 18446744073709551616) (id : Nat) (hi : hit H w = some id) (c : Hc) (hc : H[id]? = some (some c)) :
    Calls Tryz.prog 56 #[.pointer (some ⟨hb, 0, none⟩), .int .u64 w] W fun e w' => e = .returned (.tuple #[.agg #[.int .i64 c.cl.kind, .bool c.cl.view, .int .i64 0, .string ByteArray.empty, .slice none 0 0, .slice none 0 0, .int .u64 c.cl.base, .int .i64 c.cl.frm, .int .i64 c.cl.len], .int .i64 c.bytes.length, .int .i64 0]) ∧ Below W.heap.size W w' := by
  have hB1 : Below W.heap.size W (W.alloc (.cells #[.int .i64 0, .bool false, .int .i64 0, .string ⟨#[]⟩, .slice none 0 0, .slice none 0 0, .int .u64 0, .int .i64 0, .int .i64 0] 43)) := (Below.refl _ W).alloc (Nat.le_refl _) _
  have hs1 : (W.alloc (.cells #[.int .i64 0, .bool false, .int .i64 0, .string ⟨#[]⟩, .slice none 0 0, .slice none 0 0, .int .u64 0, .int .i64 0, .int .i64 0] 43)).heap.size = W.heap.size + 1 := World.size_alloc ..
  have f1 := World.alloc_heap_new W (.cells #[.int .i64 0, .bool false, .int .i64 0, .string ⟨#[]⟩, .slice none 0 0, .slice none 0 0, .int .u64 0, .int .i64 0, .int .i64 0] 43)
  have g1 := g.below hB1
  have cf := find_c g1 w hw
  rw [hi] at cf
  simp only [Option.getD_some, Option.isSome_some] at cf
  have hidl : id < H.length := (List.getElem?_eq_some_iff.1 hc).1
  obtain ⟨b, cap, hvc, hcell, _⟩ := g1.at hidl
  have c1 := g1.cell 1
  simp only [List.getElem?_cons_succ, List.getElem?_cons_zero] at c1
  rw [hvc] at c1
  have k0 := hcell 0 _ hc (by omega)
  have k1 := hcell 1 _ hc (by omega)
  have k2 := hcell 2 _ hc (by omega)
  have k3 := hcell 3 _ hc (by omega)
  have k4 := hcell 4 _ hc (by omega)
  simp only [clO, Cl.cells, List.getElem?_cons_succ, List.getElem?_cons_zero, Nat.add_zero] at k0 k1 k2 k3 k4
  have j0 : (0 : Int) ≤ id := by omega
  have j1 : (id : Int) < H.length := by omega
  have cbr := bare_c c.cl.kind c.cl.view c.cl.base c.cl.frm c.cl.len
  have cby : ∀ w2, Below (W.alloc (.cells #[.int .i64 0, .bool false, .int .i64 0, .string ⟨#[]⟩, .slice none 0 0, .slice none 0 0, .int .u64 0, .int .i64 0, .int .i64 0] 43)).heap.size (W.alloc (.cells #[.int .i64 0, .bool false, .int .i64 0, .string ⟨#[]⟩, .slice none 0 0, .slice none 0 0, .int .u64 0, .int .i64 0, .int .i64 0] 43)) w2 → Calls Tryz.prog 74 #[.pointer (some ⟨hb, 0, none⟩), .int .i64 id] w2 fun e w' => e = .returned (.int .i64 c.bytes.length) ∧ w' = w2 := fun w2 hB => bytes_c (g1.below hB) id c hc
  have kp : Hid (∀ w4, Below (W.alloc (.cells #[.int .i64 0, .bool false, .int .i64 0, .string ⟨#[]⟩, .slice none 0 0, .slice none 0 0, .int .u64 0, .int .i64 0, .int .i64 0] 43)).heap.size (W.alloc (.cells #[.int .i64 0, .bool false, .int .i64 0, .string ⟨#[]⟩, .slice none 0 0, .slice none 0 0, .int .u64 0, .int .i64 0, .int .i64 0] 43)) w4 → w4.heap[W.heap.size]? = some (.cells #[.int .i64 0, .bool false, .int .i64 0, .string ⟨#[]⟩, .slice none 0 0, .slice none 0 0, .int .u64 0, .int .i64 0, .int .i64 0] 43) ∧ Below W.heap.size W w4) := by
    show ∀ w4, _
    intro w4 hB4
    exact ⟨(hB4.block _ (by omega)).trans f1, hB1.trans (hB4.mono hB1.size)⟩
  clear hcell g g1 hc hi f1 hB1 hidl
  go_enter Tryz.func56, Tryz.ntmps56
  go_upto_region 1 with fail
  generalize W.alloc (.cells #[.int .i64 0, .bool false, .int .i64 0, .string ⟨#[]⟩, .slice none 0 0, .slice none 0 0, .int .u64 0, .int .i64 0, .int .i64 0] 43) = W1 at *
  go_wp2_with (first | (go_at_call 40; (with_reducible refine cf.mono ?_); rintro e w' ⟨rfl, hw⟩; (have hw' := hw.symm); subst hw'; clear hw cf) | (go_at_call 69; (with_reducible refine (cbr _).mono ?_); rintro e w4 ⟨rfl, hB4⟩; clear cbr; (obtain ⟨fR, hBf⟩ := kp.out w4 hB4); (have eR := fun j => cell_of_row w4 W.heap.size j _ _ _ fR); (have zR := (fun j => by simp [World.frozen?, fR] : ∀ j, w4.frozen? ⟨W.heap.size, j, none⟩ = false)); (have FR := hid fR); clear fR) | (go_at_call 74; (with_reducible refine (cby _ hB4).mono ?_); rintro e w' ⟨rfl, hw⟩; (have hw' := hw.symm); subst hw'; clear hw cby))
  refine bodyPost_ret (cell_ret3 rfl _ _ W.heap.size _ _ _ _ _ _ _ _ _ (0, 0) rfl (nine_set FR.out _ _ _ _ _ _ _ _ _)) rfl ?_
  exact ⟨rfl, nine_below hBf (Nat.le_refl _) _ _ _ _ _ _ _ _ _⟩
end
end Go.Proofs.YtenpopelbmeemaaGreat.W
/- Package value: unboxCell by Look and Get. -/
namespace Go.Proofs.YtenpopelbmeemaaGreat.W
open Go.ChangeShapes Go.WideShapes Go.RowKit Go.Shelf
set_option linter.unusedVariables false
section
variable {W W' : World} {hb sb : Nat} {vc : Value} {T : Nat → Prop} {H : List (Option Hc)} {u h : Nat}
theorem valT : (Tryz.prog.underlying 33).map (fun d => match d with | .struct _ | .array _ _ => true | _ => false) = some true := by kernel_rfl
theorem valSz : (Tryz.prog.info? 33).map (·.size) = some 5 := by kernel_rfl
theorem val_ret2 {fn : Func} {p q : Tmp} (h : fn.results = #[.cell p 33, .tmp q]) (tmps : Array Value) (w : World) (gb : Nat) (v0 v1 v2 v3 v4 : Value) (fr : Nat × Nat) (hp : tmps.getD p undef = .pointer (some ⟨gb, 0, none⟩)) (hg : w.heap[gb]? = some (.cells #[v0, v1, v2, v3, v4] 33 fr)) : (results fn tmps).run Tryz.prog w = .ok (.tuple #[.agg #[v0, v1, v2, v3, v4], tmps.getD q undef]) w := by
  have ht := valT
  rw [results_cell_tmp h, hp]
  cases hu : Tryz.prog.underlying 33 with
  | none => rw [hu] at ht; cases ht
  | some d =>
    rw [hu] at ht
    simp only [Option.map_some, Option.some.injEq] at ht
    have hl := run_loadVar_row (P := Tryz.prog) w gb 33 33 #[v0, v1, v2, v3, v4] fr d hg hu (by cases d <;> first | rfl | exact ht) (by rw [valSz]; rfl)
    simp [asAddr, hl]
theorem five_set {w : World} {gb : Nat} {z0 z1 z2 z3 z4 : Value} {t : TypeId} (hg : w.heap[gb]? = some (.cells #[z0, z1, z2, z3, z4] t (0, 0))) (v0 v1 v2 v3 v4 : Value) : (((((w.setCell ⟨gb, 0, none⟩ v0).setCell ⟨gb, 1, none⟩ v1).setCell ⟨gb, 2, none⟩ v2).setCell ⟨gb, 3, none⟩ v3).setCell ⟨gb, 4, none⟩ v4).heap[gb]? = some (.cells #[v0, v1, v2, v3, v4] t (0, 0)) := by
  have h0 : w.heap[gb]? = some (.cells [z0, z1, z2, z3, z4].toArray t (0, 0)) := hg
  have h1 := heap_set h0 0 v0
  have h2 := heap_set h1 1 v1
  have h3 := heap_set h2 2 v2
  have h4 := heap_set h3 3 v3
  exact heap_set h4 4 v4
theorem five_below {w a : World} {gb B : Nat} (h : Below B a w) (hB : B ≤ gb) (v0 v1 v2 v3 v4 : Value) : Below B a (((((w.setCell ⟨gb, 0, none⟩ v0).setCell ⟨gb, 1, none⟩ v1).setCell ⟨gb, 2, none⟩ v2).setCell ⟨gb, 3, none⟩ v3).setCell ⟨gb, 4, none⟩ v4) :=
  ((((h.setCell (p := ⟨gb, 0, none⟩) hB v0).setCell (p := ⟨gb, 1, none⟩) hB v1).setCell (p := ⟨gb, 2, none⟩) hB v2).setCell (p := ⟨gb, 3, none⟩) hB v3).setCell (p := ⟨gb, 4, none⟩) hB v4
theorem set_far9 (w : World) (gb : Nat) (v0 v1 v2 v3 v4 v5 v6 v7 v8 : Value) (k : Nat) (h : k ≠ gb) : (((((((((w.setCell ⟨gb, 0, none⟩ v0).setCell ⟨gb, 1, none⟩ v1).setCell ⟨gb, 2, none⟩ v2).setCell ⟨gb, 3, none⟩ v3).setCell ⟨gb, 4, none⟩ v4).setCell ⟨gb, 5, none⟩ v5).setCell ⟨gb, 6, none⟩ v6).setCell ⟨gb, 7, none⟩ v7).setCell ⟨gb, 8, none⟩ v8).heap[k]? = w.heap[k]? := by
  rw [Below.heap_setCell _ _ _ _ h, Below.heap_setCell _ _ _ _ h, Below.heap_setCell _ _ _ _ h, Below.heap_setCell _ _ _ _ h, Below.heap_setCell _ _ _ _ h, Below.heap_setCell _ _ _ _ h, Below.heap_setCell _ _ _ _ h, Below.heap_setCell _ _ _ _ h, Below.heap_setCell _ _ _ _ h]
/-- of a number's cell -/
theorem unboxCell_thru2 (g : HLay W hb sb vc T H u h) (w : Nat) (hw : w < 18446744073709551616) (id : Nat) (hi : hit H w = some id) (c : Hc) (hc : H[id]? = some (some c)) (hck : c.cl.kind = 2) (i : Int) (t : ByteArray)
    (hget : ∀ w1, Below W.heap.size W w1 → Calls Tryz.prog 16 #[.pointer (some ⟨hb, 0, none⟩), .int .u64 w] w1 fun e w' => e = .returned (.tuple #[.agg #[.int .i64 2, .bool false, .int .i64 i, .string t, .slice none 0 0, .slice none 0 0, .int .u64 0, .int .i64 0, .int .i64 0], .int .i64 0]) ∧ Below w1.heap.size w1 w') :
    Calls Tryz.prog 61 #[.pointer (some ⟨hb, 0, none⟩), .int .u64 w] W fun e w' => e = .returned (.tuple #[.agg #[.int .i64 2, .int .i64 i, .int .u64 0, .string t, .int .u64 0], .int .i64 0]) ∧ Below W.heap.size W w' := by
  have hB1 : Below W.heap.size W (W.alloc (.cells #[.int .i64 0, .int .i64 0, .int .u64 0, .string ⟨#[]⟩, .int .u64 0] 33)) := (Below.refl _ W).alloc (Nat.le_refl _) _
  have hs1 : ((W.alloc (.cells #[.int .i64 0, .int .i64 0, .int .u64 0, .string ⟨#[]⟩, .int .u64 0] 33))).heap.size = W.heap.size + 1 := World.size_alloc ..
  have f1 := World.alloc_heap_new W (.cells #[.int .i64 0, .int .i64 0, .int .u64 0, .string ⟨#[]⟩, .int .u64 0] 33)
  have cl := look_c (g.below hB1) w hw id hi c hc
  rw [hck] at cl
  generalize c.cl.view = vw at cl
  generalize ((c.cl.base : Nat) : Int) = ba at cl
  generalize c.cl.frm = fr at cl
  generalize c.cl.len = ln at cl
  generalize ((c.bytes.length : Nat) : Int) = bn at cl
  have kp : Hid (∀ w4, Below ((W.alloc (.cells #[.int .i64 0, .int .i64 0, .int .u64 0, .string ⟨#[]⟩, .int .u64 0] 33))).heap.size (W.alloc (.cells #[.int .i64 0, .int .i64 0, .int .u64 0, .string ⟨#[]⟩, .int .u64 0] 33)) w4 → w4.heap[W.heap.size]? = some (.cells #[.int .i64 0, .int .i64 0, .int .u64 0, .string ⟨#[]⟩, .int .u64 0] 33) ∧ Below W.heap.size W w4 ∧ W.heap.size + 1 ≤ w4.heap.size) := by
    show ∀ w4, _
    intro w4 hB4
    exact ⟨(hB4.block _ (by omega)).trans f1, hB1.trans (hB4.mono hB1.size), by have := hB4.size; omega⟩
  have hG := hid hget
  clear g hc hck f1 hi hget hB1 hs1
  go_enter Tryz.func61, Tryz.ntmps61
  go_upto_region 1 with fail
  generalize W.alloc (.cells #[.int .i64 0, .int .i64 0, .int .u64 0, .string ⟨#[]⟩, .int .u64 0] 33) = W1 at *
  go_upto_region 2 with (go_at_call 56; (with_reducible refine cl.mono ?_); rintro e w4 ⟨rfl, hB4⟩; clear cl; (obtain ⟨fR, hBf, hz4⟩ := kp.out w4 hB4))
  have hB5 : Below w4.heap.size w4 (w4.alloc (.cells #[.int .i64 2, .bool vw, .int .i64 0, .string ByteArray.empty, .slice none 0 0, .slice none 0 0, .int .u64 ba, .int .i64 fr, .int .i64 ln] 43)) := (Below.refl _ w4).alloc (Nat.le_refl _) _
  have fN := World.alloc_heap_new w4 (.cells #[.int .i64 2, .bool vw, .int .i64 0, .string ByteArray.empty, .slice none 0 0, .slice none 0 0, .int .u64 ba, .int .i64 fr, .int .i64 ln] 43)
  have hs5 : (w4.alloc (.cells #[.int .i64 2, .bool vw, .int .i64 0, .string ByteArray.empty, .slice none 0 0, .slice none 0 0, .int .u64 ba, .int .i64 fr, .int .i64 ln] 43)).heap.size = w4.heap.size + 1 := World.size_alloc ..
  have hBe : Below W.heap.size W (w4.alloc (.cells #[.int .i64 2, .bool vw, .int .i64 0, .string ByteArray.empty, .slice none 0 0, .slice none 0 0, .int .u64 ba, .int .i64 fr, .int .i64 ln] 43)) := hBf.trans (hB5.mono hBf.size)
  have f5 : (w4.alloc (.cells #[.int .i64 2, .bool vw, .int .i64 0, .string ByteArray.empty, .slice none 0 0, .slice none 0 0, .int .u64 ba, .int .i64 fr, .int .i64 ln] 43)).heap[W.heap.size]? = some (.cells #[.int .i64 0, .int .i64 0, .int .u64 0, .string ⟨#[]⟩, .int .u64 0] 33) := (hB5.block _ (by omega)).trans fR
  obtain ⟨nb, hnb⟩ : ∃ nb, w4.heap.size = nb := ⟨_, rfl⟩
  clear hB5 hBf hB4 fR kp
  rw [hnb] at fN hs5 hz4
  rw [hnb]
  clear hnb
  generalize World.alloc w4 _ = W5 at *
  have eN := fun j => cell_of_row W5 nb j _ _ _ fN
  have cg := hG.out W5 hBe
  have kp2 : Hid (∀ w6, Below W5.heap.size W5 w6 → w6.heap[W.heap.size]? = some (.cells #[.int .i64 0, .int .i64 0, .int .u64 0, .string ⟨#[]⟩, .int .u64 0] 33) ∧ w6.heap[nb]? = some (.cells #[.int .i64 2, .bool vw, .int .i64 0, .string ByteArray.empty, .slice none 0 0, .slice none 0 0, .int .u64 ba, .int .i64 fr, .int .i64 ln] 43) ∧ Below W.heap.size W w6 ∧ W.heap.size + 1 ≤ nb) := by
    show ∀ w6, _
    intro w6 hB6
    exact ⟨(hB6.block _ (by omega)).trans f5, (hB6.block _ (by omega)).trans fN, hBe.trans (hB6.mono hBe.size), hz4⟩
  clear hG fN hs5 hz4 f5 hBe
  go_upto_region 8 with (go_at_call 16; (with_reducible refine cg.mono ?_); rintro e w6 ⟨rfl, hB6⟩; clear cg; (obtain ⟨fR, fN, hBf, hz6⟩ := kp2.out w6 hB6); (have eN6 := fun j => cell_of_row w6 nb j _ _ _ fN); (have zN := (fun j => by simp [World.frozen?, fN] : ∀ j, w6.frozen? ⟨nb, j, none⟩ = false)); (have FR := hid fR); (have FN := hid fN); (have HBf := hid hBf); (have HZ := hid hz6); clear fR fN hBf hz6 hB6)
  have hz := HZ.out
  have fN8 := nine_set FN.out (.int .i64 2) (.bool false) (.int .i64 i) (.string t) (.slice none 0 0) (.slice none 0 0) (.int .u64 0) (.int .i64 0) (.int .i64 0)
  have fR8 := (set_far9 w6 nb (.int .i64 2) (.bool false) (.int .i64 i) (.string t) (.slice none 0 0) (.slice none 0 0) (.int .u64 0) (.int .i64 0) (.int .i64 0) W.heap.size (by omega)).trans FR.out
  have hB8 := nine_below HBf.out (show W.heap.size ≤ nb by omega) (.int .i64 2) (.bool false) (.int .i64 i) (.string t) (.slice none 0 0) (.slice none 0 0) (.int .u64 0) (.int .i64 0) (.int .i64 0)
  clear eN6 zN FR FN HBf HZ eN
  generalize World.setCell _ ⟨nb, 8, none⟩ _ = W8 at *
  have eN8 := fun j => cell_of_row W8 nb j _ _ _ fN8
  have eR := fun j => cell_of_row W8 W.heap.size j _ _ _ fR8
  have zR : ∀ j, W8.frozen? ⟨W.heap.size, j, none⟩ = false := fun j => by simp [World.frozen?, fR8]
  have FR := hid fR8
  have HB := hid hB8
  clear fN8 fR8 hB8 hz
  go_wp2
  refine bodyPost_ret (val_ret2 rfl _ _ W.heap.size _ _ _ _ _ (0, 0) rfl (five_set FR.out _ _ _ _ _)) rfl ?_
  exact ⟨rfl, five_below HB.out (Nat.le_refl _) _ _ _ _ _⟩
end
end Go.Proofs.YtenpopelbmeemaaGreat.W
/- Package value: Unbox, of a number in a cell. -/
namespace Go.Proofs.YtenpopelbmeemaaGreat.W
open Go.ChangeShapes Go.WideShapes Go.RowKit Go.Shelf
set_option linter.unusedVariables false
section
variable {W W' : World} {hb sb : Nat} {vc : Value} {T : Nat → Prop} {H : List (Option Hc)} {u h : Nat}
theorem unboxCell_num (g : HLay W hb sb vc T H u h) (w : Nat) (hw : w < 18446744073709551616) (id : Nat) (hi : hit H w = some id) (i : Int) (hc : H[id]? = some (some (.num i))) :
    Calls Tryz.prog 61 #[.pointer (some ⟨hb, 0, none⟩), .int .u64 w] W fun e w' => e = .returned (.tuple #[.agg #[.int .i64 2, .int .i64 i, .int .u64 0, .string ⟨#[]⟩, .int .u64 0], .int .i64 0]) ∧ Below W.heap.size W w' :=
  unboxCell_thru2 g w hw id hi (.num i) hc rfl i ByteArray.empty (fun w1 hB => get_num (g.below hB) w hw id hi i hc)
theorem unbox_num (g : HLay W hb sb vc T H u h) (w : Nat) (hw : w < 18446744073709551616) (hcl : cls (w : Int) = 6) (id : Nat) (hi : hit H w = some id) (i : Int) (hc : H[id]? = some (some (.num i))) :
    Calls Tryz.prog 33 #[.pointer (some ⟨hb, 0, none⟩), .int .u64 w] W fun e w' => e = .returned (.tuple #[.agg #[.int .i64 2, .int .i64 i, .int .u64 0, .string ⟨#[]⟩, .int .u64 0], .int .i64 0]) ∧ Below W.heap.size W w' := by
  have hB1 : Below W.heap.size W (W.alloc (.cells #[.int .i64 0, .int .i64 0, .int .u64 0, .string ⟨#[]⟩, .int .u64 0] 33)) := (Below.refl _ W).alloc (Nat.le_refl _) _
  have hs1 : (W.alloc (.cells #[.int .i64 0, .int .i64 0, .int .u64 0, .string ⟨#[]⟩, .int .u64 0] 33)).heap.size = W.heap.size + 1 := World.size_alloc ..
  have f1 := World.alloc_heap_new W (.cells #[.int .i64 0, .int .i64 0, .int .u64 0, .string ⟨#[]⟩, .int .u64 0] 33)
  have cc := fun W => class_c (w : Int) (by omega) (by omega) W
  rw [hcl] at cc
  have cu := unboxCell_num (g.below hB1) w hw id hi i hc
  have kp : Hid (∀ w4, Below (W.alloc (.cells #[.int .i64 0, .int .i64 0, .int .u64 0, .string ⟨#[]⟩, .int .u64 0] 33)).heap.size (W.alloc (.cells #[.int .i64 0, .int .i64 0, .int .u64 0, .string ⟨#[]⟩, .int .u64 0] 33)) w4 → w4.heap[W.heap.size]? = some (.cells #[.int .i64 0, .int .i64 0, .int .u64 0, .string ⟨#[]⟩, .int .u64 0] 33) ∧ Below W.heap.size W w4) := by
    show ∀ w4, _
    intro w4 hB4
    exact ⟨(hB4.block _ (by omega)).trans f1, hB1.trans (hB4.mono hB1.size)⟩
  clear g hc hcl
  go_enter Tryz.func33, Tryz.ntmps33
  go_upto_region 1 with fail
  generalize W.alloc (.cells #[.int .i64 0, .int .i64 0, .int .u64 0, .string ⟨#[]⟩, .int .u64 0] 33) = W1 at *
  go_wp2_with (first | (go_at_call 57; (with_reducible refine (cc _).mono ?_); rintro e w' ⟨rfl, hw⟩; (have hw' := hw.symm); subst hw'; clear hw) | (go_at_call 61; (with_reducible refine cu.mono ?_); rintro e w4 ⟨rfl, hB4⟩; clear cu; (obtain ⟨fR, hBf⟩ := kp.out w4 hB4); (have eR := fun j => cell_of_row w4 W.heap.size j _ _ _ fR); (have zR := (fun j => by simp [World.frozen?, fR] : ∀ j, w4.frozen? ⟨W.heap.size, j, none⟩ = false)); (have FR := hid fR); clear fR))
  refine bodyPost_ret (val_ret2 rfl _ _ W.heap.size _ _ _ _ _ (0, 0) rfl (five_set FR.out _ _ _ _ _)) rfl ?_
  exact ⟨rfl, five_below hBf (Nat.le_refl _) _ _ _ _ _⟩
end
end Go.Proofs.YtenpopelbmeemaaGreat.W
