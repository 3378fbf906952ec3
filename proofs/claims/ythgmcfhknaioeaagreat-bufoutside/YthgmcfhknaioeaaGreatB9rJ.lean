import Derived.Test.YthgmcfhknaioeaaGreatB9qJ
/- Package buf: Load and Store of a row. -/
namespace Go.Proofs.YthgmcfhknaioeaaGreat.W
open Go.ChangeShapes Go.WideShapes Go.RowKit Go.Shelf
set_option linter.unusedVariables false
section
variable {W W' : World} {hb sb : Nat} {vc : Value} {T : Nat → Prop} {H : List (Option Hc)} {u h : Nat}
set_option maxRecDepth 100000 in
theorem load_words (g : HLay W hb sb vc T H u h) (w : Nat) (hw : w < 18446744073709551616) (id : Nat) (hid0 : hit H w = some id) (ws : List Nat) (hc : H[id]? = some (some (.row ws))) (i : Nat) (hi : i < ws.length) :
    Calls Tryz.prog 16 #[.pointer (some ⟨hb, 0, none⟩), .int .u64 w, .int .i64 i] W fun e w' => e = .returned (.tuple #[.int .u64 (ws[i] : Nat), .int .i64 0]) ∧ Below W.heap.size W w' := by
  have hcnt : i < (Hc.row ws).cnt := hi
  have ce0 := elem_c g w hw id hid0 (.row ws) hc trivial i (by omega) (by omega)
  have ce : Calls Tryz.prog 32 #[.pointer (some ⟨hb, 0, none⟩), .int .u64 w, .int .i64 i] W fun e w' => ∃ ob bc gb wc, e = .returned (.tuple #[.agg #[.int .i64 9, .bool (Hc.row ws).cl.view, .int .i64 0, .string ⟨#[]⟩, .slice ob (Hc.row ws).bl bc, .slice (some ⟨gb, 0, none⟩) ws.length wc, .int .u64 (Hc.row ws).cl.base, .int .i64 (Hc.row ws).cl.frm, .int .i64 (Hc.row ws).cl.len], .int .i64 0]) ∧ Below W.heap.size W w' ∧ w'.cell? ⟨gb, i, none⟩ = some (.int .u64 (ws[i] : Nat)) := by
    refine ce0.mono ?_
    rintro e w' ⟨ob, bc, ow, wc, rfl, hB, ho⟩
    rcases ho.2 with ⟨e1, h0⟩ | ⟨gb, cap, cur, e1, _⟩
    · exact absurd h0 (by show ¬ ws.length = 0; omega)
    · cases e1
      exact ⟨ob, bc, gb, wc, rfl, hB, own_at ho i _ (by unfold wds; rw [List.getElem?_map]; show (ws[i]?).map _ = _; rw [List.getElem?_eq_getElem hi]; rfl)⟩
  have hl : ws.length ≤ 1048576 := (g.ok id _ hc).2
  have hiw : IntKind.i64.wrap (i : Int) = i := by rw [IntKind.wrap_i64]; omega
  generalize ws[i] = X at *
  generalize (Hc.row ws).cl.view = vw at *
  generalize (Hc.row ws).bl = bl at *
  generalize (Hc.row ws).cl.base = ba at *
  generalize (Hc.row ws).cl.frm = fr at *
  generalize (Hc.row ws).cl.len = ln at *
  have HI := hid hi
  generalize ws.length = wl at *
  clear ce0 g hc hcnt hid0 hl hi
  go_enter Tryz.func16, Tryz.ntmps16
  go_upto_region 2 with (go_at_call 32; (with_reducible refine ce.mono ?_); rintro e w2 ⟨ob, bc, gb, wc, rfl, hB2, hx2⟩; clear ce)
  have hB3 : Below w2.heap.size w2 (w2.alloc (.cells #[.int .i64 9, .bool vw, .int .i64 0, .string ⟨#[]⟩, .slice ob bl bc, .slice (some ⟨gb, 0, none⟩) wl wc, .int .u64 ba, .int .i64 fr, .int .i64 ln] 39)) := (Below.refl _ w2).alloc (Nat.le_refl _) _
  have e3 := World.cell?_alloc_new w2 #[.int .i64 9, .bool vw, .int .i64 0, .string ⟨#[]⟩, .slice ob bl bc, .slice (some ⟨gb, 0, none⟩) wl wc, .int .u64 ba, .int .i64 fr, .int .i64 ln] 39
  have hbel := hB2.trans (hB3.mono hB2.size)
  have hx3 := below_cell hB3 hx2
  generalize w2.alloc (.cells #[.int .i64 9, .bool vw, .int .i64 0, .string ⟨#[]⟩, .slice ob bl bc, .slice (some ⟨gb, 0, none⟩) wl wc, .int .u64 ba, .int .i64 fr, .int .i64 ln] 39) = w3 at *
  have cp := pairOf_words w3 hb w vw ob (some ⟨gb, 0, none⟩) bl bc wl wc ba fr ln
  have HBel := hid hbel
  have HX := hid hx3
  have pf := fun f g cs ds w => pair_f0 f g cs ds w
  clear hB2 hB3 hbel hx2 hx3
  go_wp2_with (first | (go_at_call 34; (with_reducible refine cp.mono ?_); rintro e w4 ⟨Bh, Bx, Bc, rfl, hB4, hP4⟩; clear cp; (have cv := words1_c w4 hb w vw ob gb bl bc wl wc ba fr ln hP4 i HI.out X (below_cell hB4 HX.out))) | (go_at_call 111; (with_reducible refine cv.mono ?_); rintro e w5 ⟨rfl, hB5⟩; clear cv))
  go_ret2
  exact ⟨rfl, (HBel.out.trans (hB4.mono HBel.out.size)).trans (hB5.mono (by have := HBel.out.size; have := hB4.size; omega))⟩
set_option maxRecDepth 100000 in
set_option maxHeartbeats 1000000 in
/-- Store, over what Unbox answers and what the pair does -/
theorem store_words (g : HLay W hb sb vc T H u h) (w : Nat) (hw : w < 18446744073709551616) (id : Nat) (hid0 : hit H w = some id) (ws : List Nat) (hc : H[id]? = some (some (.row ws))) (i : Nat) (hi : i < ws.length) (xw : Nat) (hxw : xw < 18446744073709551616) (hva : isVal H xw = true) (vk va vb vr : Int) (vt : ByteArray)
    (hun : ∀ w2, Below W.heap.size W w2 → Calls Tryz.prog 33 #[.pointer (some ⟨hb, 0, none⟩), .int .u64 xw] w2 fun e w' => e = .returned (.tuple #[.agg #[.int .i64 vk, .int .i64 va, .int .u64 vb, .string vt, .int .u64 vr], .int .i64 0]) ∧ Below w2.heap.size w2 w') :
    Calls Tryz.prog 15 #[.pointer (some ⟨hb, 0, none⟩), .int .u64 w, .int .i64 i, .int .u64 xw] W fun e w' => e = .returned (.int .i64 0) ∧ Upd T W w' ∧ HLay w' hb sb vc T (H.set id (some (.row (ws.set i xw)))) u h := by
  have hcnt : i < (Hc.row ws).cnt := hi
  have ce := elem_c g w hw id hid0 (.row ws) hc trivial i (by omega) (by omega)
  unfold ThPost at ce
  rw [show (Hc.row ws).cl.kind = 9 from rfl] at ce
  have hl : ws.length ≤ 1048576 := (g.ok id _ hc).2
  have hiw : IntKind.i64.wrap (i : Int) = i := by rw [IntKind.wrap_i64]; omega
  have hcl : ∀ w4 Bh Bx Bc row, Below W.heap.size W w4 → WordAt w4 Bh Bx Bc hb w row → Calls Tryz.prog 112 #[.int .i64 i, .int .u64 xw, .agg #[.int .i64 vk, .int .i64 va, .int .u64 vb, .string vt, .int .u64 vr], .pointer (some ⟨Bh, 0, none⟩), .pointer (some ⟨Bx, 0, none⟩)] w4 fun e w' => e = .returned (.int .i64 0) ∧ Upd T w4 w' ∧ HLay w' hb sb vc T (H.set id (some (.row (ws.set i xw)))) u h := fun w4 Bh Bx Bc row hB hP => words2_c (g.below hB) w hw id hid0 ws hc i hi xw hxw hva hP vk va vb vr vt
  generalize (H.set id (some (.row (ws.set i xw)))) = HH at *
  have HV := hid hcl
  have HU := hid hun
  have HT : Hid (∀ k, T k → k < W.heap.size) := hid g.tlt
  generalize (Hc.row ws).cl.view = vw at *
  generalize (Hc.row ws).bl = bl at *
  generalize (Hc.row ws).wl = wl at *
  generalize (Hc.row ws).cl.base = ba at *
  generalize (Hc.row ws).cl.frm = fr at *
  generalize (Hc.row ws).cl.len = ln at *
  clear g hi hcl hun hc hcnt hid0 hl hxw hva
  go_enter Tryz.func15, Tryz.ntmps15
  go_upto_region 2 with (go_at_call 32; (with_reducible refine ce.mono ?_); rintro e w2 ⟨ob, bc, ow, wc, rfl, hB2, ho⟩; clear ce ho)
  have hB3 : Below w2.heap.size w2 (w2.alloc (.cells #[.int .i64 9, .bool vw, .int .i64 0, .string ⟨#[]⟩, .slice ob bl bc, .slice ow wl wc, .int .u64 ba, .int .i64 fr, .int .i64 ln] 39)) := (Below.refl _ w2).alloc (Nat.le_refl _) _
  have f3 := World.alloc_heap_new w2 (.cells #[.int .i64 9, .bool vw, .int .i64 0, .string ⟨#[]⟩, .slice ob bl bc, .slice ow wl wc, .int .u64 ba, .int .i64 fr, .int .i64 ln] 39)
  have hbel := hB2.trans (hB3.mono hB2.size)
  have hz2 := hB2.size
  generalize w2.alloc (.cells #[.int .i64 9, .bool vw, .int .i64 0, .string ⟨#[]⟩, .slice ob bl bc, .slice ow wl wc, .int .u64 ba, .int .i64 fr, .int .i64 ln] 39) = w3 at *
  generalize w2.heap.size = B9 at *
  have cu := HU.out w3 hbel
  go_upto_region 5 with (go_at_call 33; (with_reducible refine cu.mono ?_); rintro e w4 ⟨rfl, hB4⟩; clear cu)
  have hB5 : Below w4.heap.size w4 (w4.alloc (.cells #[.int .i64 vk, .int .i64 va, .int .u64 vb, .string vt, .int .u64 vr] 49)) := (Below.refl _ w4).alloc (Nat.le_refl _) _
  have f5 := World.alloc_heap_new w4 (.cells #[.int .i64 vk, .int .i64 va, .int .u64 vb, .string vt, .int .u64 vr] 49)
  have f35 : (w4.alloc (.cells #[.int .i64 vk, .int .i64 va, .int .u64 vb, .string vt, .int .u64 vr] 49)).heap[B9]? = some (.cells #[.int .i64 9, .bool vw, .int .i64 0, .string ⟨#[]⟩, .slice ob bl bc, .slice ow wl wc, .int .u64 ba, .int .i64 fr, .int .i64 ln] 39) := (hB5.block B9 (Nat.lt_of_lt_of_le (lt_get f3) hB4.size)).trans ((hB4.block B9 (lt_get f3)).trans f3)
  have hbel5 := (hbel.trans (hB4.mono hbel.size)).trans (hB5.mono (Nat.le_trans hbel.size hB4.size))
  have hz4 : W.heap.size ≤ w4.heap.size := Nat.le_trans hbel.size hB4.size
  generalize w4.alloc (.cells #[.int .i64 vk, .int .i64 va, .int .u64 vb, .string vt, .int .u64 vr] 49) = w5 at *
  generalize w4.heap.size = B11 at *
  have nT : Hid (¬ T B9 ∧ ¬ T B11) := hid ⟨fun e => by have := HT.out _ e; omega, fun e => by have := HT.out _ e; omega⟩
  clear hB4 hB5 hB2 hB3 hbel f3 HU hz2 hz4 HT
  go_upto_region 7 with fail
  have hBd : Below W.heap.size W w5.drew := ⟨hbel5.os, hbel5.tape, hbel5.output, hbel5.size, hbel5.block⟩
  have pf := fun f g cs ds w => pair_f1 f g cs ds w
  have cp := pairOf_words w5.drew hb w vw ob ow bl bc wl wc ba fr ln
  refine wp_region_held_drew (S := fun w' => w'.heap[B9]? = some (.cells #[.int .i64 9, .bool vw, .int .i64 0, .string ⟨#[]⟩, .slice ob bl bc, .slice ow wl wc, .int .u64 ba, .int .i64 fr, .int .i64 ln] 39) ∧ w'.heap[B11]? = some (.cells #[.int .i64 vk, .int .i64 va, .int .u64 vb, .string vt, .int .u64 vr] 49)) (by kernel_rfl) ⟨f35, f5⟩ ?_
  intro hS
  (refine wpAnyH_take (i := 0) (v := ?_) rfl (by kernel_rfl) (by kernel_rfl) (by kernel_rfl) (fun _ _ _ h => h) (Or.inl ⟨by rfl, ?_⟩) hS ?_); rotate_left; (focus (intro w' hSw; (have ec := fun j => cell_of_row w' B9 j _ _ _ hSw.1); (have ev := fun j => cell_of_row w' B11 j _ _ _ hSw.2); go_simp; (try with_reducible rfl)))
  (refine wpAnyH_take (i := 1) (v := ?_) rfl (by kernel_rfl) (by kernel_rfl) (by kernel_rfl) (fun _ _ _ h => h) (Or.inl ⟨by rfl, ?_⟩) hS ?_); rotate_left; (focus (intro w' hSw; (have ec := fun j => cell_of_row w' B9 j _ _ _ hSw.1); (have ev := fun j => cell_of_row w' B11 j _ _ _ hSw.2); go_simp; (try with_reducible rfl)))
  (refine wpAnyH_take (i := 2) (v := ?_) rfl (by kernel_rfl) (by kernel_rfl) (by kernel_rfl) (fun _ _ _ h => h) (Or.inl ⟨by rfl, ?_⟩) hS ?_); rotate_left; (focus (intro w' hSw; (have ec := fun j => cell_of_row w' B9 j _ _ _ hSw.1); (have ev := fun j => cell_of_row w' B11 j _ _ _ hSw.2); go_simp; (try with_reducible rfl)))
  (refine wpAnyH_take (i := 5) (v := ?_) rfl (by kernel_rfl) (by kernel_rfl) (by kernel_rfl) (fun _ _ _ h => h) (Or.inl ⟨by rfl, ?_⟩) hS ?_); rotate_left; (focus (intro w' hSw; (have ec := fun j => cell_of_row w' B9 j _ _ _ hSw.1); (have ev := fun j => cell_of_row w' B11 j _ _ _ hSw.2); go_simp; (try with_reducible rfl)))
  (refine wpAnyH_take (i := 6) (v := ?_) rfl (by kernel_rfl) (by kernel_rfl) (by kernel_rfl) (fun _ _ _ h => h) (Or.inl ⟨by rfl, ?_⟩) hS ?_); rotate_left; (focus (intro w' hSw; (have ec := fun j => cell_of_row w' B9 j _ _ _ hSw.1); (have ev := fun j => cell_of_row w' B11 j _ _ _ hSw.2); go_simp; (try with_reducible rfl)))
  (refine wpAnyH_take (i := 7) (v := ?_) rfl (by kernel_rfl) (by kernel_rfl) (by kernel_rfl) (fun _ _ _ h => h) (Or.inl ⟨by rfl, ?_⟩) hS ?_); rotate_left; (focus (intro w' hSw; (have ec := fun j => cell_of_row w' B9 j _ _ _ hSw.1); (have ev := fun j => cell_of_row w' B11 j _ _ _ hSw.2); go_simp; (try with_reducible rfl)))
  refine wpAnyH_ready (rs := [3]) (by kernel_rfl) (by simp) ?_
  refine AllReadyH.cons rfl (fun K hK => ?_) AllReadyH.nil
  go_simp
  refine cp.mono ?_
  rintro e w6 ⟨Bh, Bx, Bc, rfl, hB6, hP6⟩
  have hS6 : w6.heap[B9]? = some (.cells #[.int .i64 9, .bool vw, .int .i64 0, .string ⟨#[]⟩, .slice ob bl bc, .slice ow wl wc, .int .u64 ba, .int .i64 fr, .int .i64 ln] 39) ∧ w6.heap[B11]? = some (.cells #[.int .i64 vk, .int .i64 va, .int .u64 vb, .string vt, .int .u64 vr] 49) := ⟨(hB6.block B9 (lt_get hS.1)).trans hS.1, (hB6.block B11 (lt_get hS.2)).trans hS.2⟩
  have cv := HV.out w6 Bh Bx Bc _ (hBd.trans (hB6.mono hBd.size)) hP6
  refine hK.out _ _ hS6 (fun _ => ?_)
  clear hK K cp hS
  have hS := hS6
  (refine wpAnyH_take (i := 4) (v := ?_) rfl (by kernel_rfl) (by kernel_rfl) (by kernel_rfl) (fun _ _ _ h => h) (Or.inl ⟨by rfl, ?_⟩) hS ?_); rotate_left; (focus (intro w' hSw; go_simp; (try with_reducible rfl)))
  refine wpAnyH_ready (rs := [8]) (by kernel_rfl) (by simp) ?_
  refine AllReadyH.cons rfl (fun K hK => ?_) AllReadyH.nil
  go_simp
  refine cv.mono ?_
  rintro e w7 ⟨rfl, hU7, hP7⟩
  have hS7 : w7.heap[B9]? = some (.cells #[.int .i64 9, .bool vw, .int .i64 0, .string ⟨#[]⟩, .slice ob bl bc, .slice ow wl wc, .int .u64 ba, .int .i64 fr, .int .i64 ln] 39) ∧ w7.heap[B11]? = some (.cells #[.int .i64 vk, .int .i64 va, .int .u64 vb, .string vt, .int .u64 vr] 49) := ⟨(hU7.block B9 (lt_get hS.1) nT.out.1).trans hS.1, (hU7.block B11 (lt_get hS.2) nT.out.2).trans hS.2⟩
  have hUW : Upd T W w7 := (Upd.of_below (hBd.trans (hB6.mono hBd.size))).trans' hU7
  refine hK.out _ _ hS7 (fun _ => ?_)
  clear hK K cv hS hS6
  have hS := hS7
  (refine wpAnyH_take (i := 9) (v := ?_) rfl (by kernel_rfl) (by kernel_rfl) (by kernel_rfl) (fun _ _ _ h => h) (Or.inl ⟨by rfl, ?_⟩) hS ?_); rotate_left; (focus (intro w' hSw; go_simp; (try with_reducible rfl)))
  refine wpAnyH_done (by kernel_rfl) ?_ _
  go_wp2
  go_ret
  exact ⟨rfl, hUW, hP7⟩
end
end Go.Proofs.YthgmcfhknaioeaaGreat.W
