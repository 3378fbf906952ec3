import Derived.Test.YtenpopelbmeemaaGreatBase30
/- Package buf: Store, of octets and shorts; Load and Store beyond the end. -/
namespace Go.Proofs.YtenpopelbmeemaaGreat.W
open Go.ChangeShapes Go.WideShapes Go.RowKit Go.Shelf
set_option linter.unusedVariables false
section
variable {W W' : World} {hb sb : Nat} {vc : Value} {T : Nat → Prop} {H : List (Option Hc)} {u h : Nat}
set_option maxRecDepth 100000 in
set_option maxHeartbeats 1000000 in
/-- Store, over what Unbox answers and what the pair does -/
theorem store_octets {w : Nat} {k2 : Int} {t p n : Nat} {bs : List Nat} (g : HLay W hb sb vc T H u h) (s : Spot H w 8 t p n k2 bs) (i : Nat) (hi : i * 1 + 1 ≤ n) (xw vk va vb vr : Int) (vt : ByteArray)
    (hun : ∀ w2, Below W.heap.size W w2 → Calls Tryz.prog 33 #[.pointer (some ⟨hb, 0, none⟩), .int .u64 xw] w2 fun e w' => e = .returned (.tuple #[.agg #[.int .i64 vk, .int .i64 va, .int .u64 vb, .string vt, .int .u64 vr], .int .i64 0]) ∧ Below w2.heap.size w2 w')
    (code : Int) (P : World → Prop) (hcl : ∀ w4 Br Bw, Below W.heap.size W w4 → PairAt w4 Br Bw hb w 1 → Calls Tryz.prog 109 #[.int .i64 i, .int .u64 xw, .agg #[.int .i64 vk, .int .i64 va, .int .u64 vb, .string vt, .int .u64 vr], .pointer (some ⟨Bw, 0, none⟩)] w4 fun e w' => e = .returned (.int .i64 code) ∧ Upd T w4 w' ∧ P w') :
    Calls Tryz.prog 10 #[.pointer (some ⟨hb, 0, none⟩), .int .u64 w, .int .i64 i, .int .u64 xw] W fun e w' => e = .returned (.int .i64 code) ∧ Upd T W w' ∧ P w' := by
  obtain ⟨id, c, hit0, hc, hth, hk0, hcn⟩ := spot_thing s (by decide)
  have hcnt : i < c.cnt := by rw [hcn]; show i < n / 1; omega
  have ce := elem_c g w s.w64 id hit0 c hc hth i (by omega) (by omega)
  unfold ThPost at ce
  rw [hk0] at ce
  have hl8 : bs.length ≤ 8388608 := (g.ok t _ s.cell).2.2
  have hiw : IntKind.i64.wrap (i : Int) = i := by have := s.fit; rw [IntKind.wrap_i64]; omega
  have HV := hid hcl
  have HU := hid hun
  have HT : Hid (∀ k, T k → k < W.heap.size) := hid g.tlt
  generalize c.cl.view = vw at *
  generalize ((c.bytes.length : Nat) : Int) = nb at *
  generalize c.cl.base = ba at *
  generalize c.cl.frm = fr at *
  generalize c.cl.len = ln at *
  clear g s hi hcl hun hc hth hk0 hcn hcnt hit0 hl8
  go_enter Tryz.func10, Tryz.ntmps10
  go_upto_region 2 with (go_at_call 32; (with_reducible refine ce.mono ?_); rintro e w2 ⟨rfl, hB2⟩; clear ce)
  have hB3 : Below w2.heap.size w2 (w2.alloc (.cells #[.int .i64 8, .bool vw, .int .i64 0, .string ⟨#[]⟩, .slice none 0 0, .slice none 0 0, .int .u64 ba, .int .i64 fr, .int .i64 ln, .int .i64 nb] 69)) := (Below.refl _ w2).alloc (Nat.le_refl _) _
  have f3 := World.alloc_heap_new w2 (.cells #[.int .i64 8, .bool vw, .int .i64 0, .string ⟨#[]⟩, .slice none 0 0, .slice none 0 0, .int .u64 ba, .int .i64 fr, .int .i64 ln, .int .i64 nb] 69)
  have hbel := hB2.trans (hB3.mono hB2.size)
  have hz2 := hB2.size
  generalize w2.alloc (.cells #[.int .i64 8, .bool vw, .int .i64 0, .string ⟨#[]⟩, .slice none 0 0, .slice none 0 0, .int .u64 ba, .int .i64 fr, .int .i64 ln, .int .i64 nb] 69) = w3 at *
  generalize w2.heap.size = B9 at *
  have cu := HU.out w3 hbel
  go_upto_region 5 with (go_at_call 33; (with_reducible refine cu.mono ?_); rintro e w4 ⟨rfl, hB4⟩; clear cu)
  have hB5 : Below w4.heap.size w4 (w4.alloc (.cells #[.int .i64 vk, .int .i64 va, .int .u64 vb, .string vt, .int .u64 vr] 33)) := (Below.refl _ w4).alloc (Nat.le_refl _) _
  have f5 := World.alloc_heap_new w4 (.cells #[.int .i64 vk, .int .i64 va, .int .u64 vb, .string vt, .int .u64 vr] 33)
  have f35 : (w4.alloc (.cells #[.int .i64 vk, .int .i64 va, .int .u64 vb, .string vt, .int .u64 vr] 33)).heap[B9]? = some (.cells #[.int .i64 8, .bool vw, .int .i64 0, .string ⟨#[]⟩, .slice none 0 0, .slice none 0 0, .int .u64 ba, .int .i64 fr, .int .i64 ln, .int .i64 nb] 69) := (hB5.block B9 (Nat.lt_of_lt_of_le (lt_get f3) hB4.size)).trans ((hB4.block B9 (lt_get f3)).trans f3)
  have hbel5 := (hbel.trans (hB4.mono hbel.size)).trans (hB5.mono (Nat.le_trans hbel.size hB4.size))
  have hz4 : W.heap.size ≤ w4.heap.size := Nat.le_trans hbel.size hB4.size
  generalize w4.alloc (.cells #[.int .i64 vk, .int .i64 va, .int .u64 vb, .string vt, .int .u64 vr] 33) = w5 at *
  generalize w4.heap.size = B11 at *
  have nT : Hid (¬ T B9 ∧ ¬ T B11) := hid ⟨fun e => by have := HT.out _ e; omega, fun e => by have := HT.out _ e; omega⟩
  clear hB4 hB5 hB2 hB3 hbel f3 HU hz2 hz4 HT
  go_upto_region 7 with fail
  have hBd : Below W.heap.size W w5.drew := ⟨hbel5.os, hbel5.tape, hbel5.output, hbel5.size, hbel5.block⟩
  have pf := fun f g cs ds w => pair_f1 f g cs ds w
  have cp := pairOf_octets w5.drew hb w
  refine wp_region_held_drew (S := fun w' => w'.heap[B9]? = some (.cells #[.int .i64 8, .bool vw, .int .i64 0, .string ⟨#[]⟩, .slice none 0 0, .slice none 0 0, .int .u64 ba, .int .i64 fr, .int .i64 ln, .int .i64 nb] 69) ∧ w'.heap[B11]? = some (.cells #[.int .i64 vk, .int .i64 va, .int .u64 vb, .string vt, .int .u64 vr] 33)) (by kernel_rfl) ⟨f35, f5⟩ ?_
  intro hS
  (refine wpAnyH_take (i := 0) (v := ?_) rfl (by kernel_rfl) (by kernel_rfl) (by kernel_rfl) (fun _ _ _ h => h) (Or.inl ⟨by rfl, ?_⟩) hS ?_); rotate_left; (focus (intro w' hSw; (have ec := fun j => cell_of_row w' B9 j _ _ _ hSw.1); (have ev := fun j => cell_of_row w' B11 j _ _ _ hSw.2); go_simp; (try with_reducible rfl)))
  (refine wpAnyH_take (i := 1) (v := ?_) rfl (by kernel_rfl) (by kernel_rfl) (by kernel_rfl) (fun _ _ _ h => h) (Or.inl ⟨by rfl, ?_⟩) hS ?_); rotate_left; (focus (intro w' hSw; (have ec := fun j => cell_of_row w' B9 j _ _ _ hSw.1); (have ev := fun j => cell_of_row w' B11 j _ _ _ hSw.2); go_simp; (try with_reducible rfl)))
  (refine wpAnyH_take (i := 2) (v := ?_) rfl (by kernel_rfl) (by kernel_rfl) (by kernel_rfl) (fun _ _ _ h => h) (Or.inl ⟨by rfl, ?_⟩) hS ?_); rotate_left; (focus (intro w' hSw; (have ec := fun j => cell_of_row w' B9 j _ _ _ hSw.1); (have ev := fun j => cell_of_row w' B11 j _ _ _ hSw.2); go_simp; (try with_reducible rfl)))
  (refine wpAnyH_take (i := 3) (v := ?_) rfl (by kernel_rfl) (by kernel_rfl) (by kernel_rfl) (fun _ _ _ h => h) (Or.inl ⟨by rfl, ?_⟩) hS ?_); rotate_left; (focus (intro w' hSw; (have ec := fun j => cell_of_row w' B9 j _ _ _ hSw.1); (have ev := fun j => cell_of_row w' B11 j _ _ _ hSw.2); go_simp; (try with_reducible rfl)))
  (refine wpAnyH_take (i := 4) (v := ?_) rfl (by kernel_rfl) (by kernel_rfl) (by kernel_rfl) (fun _ _ _ h => h) (Or.inl ⟨by rfl, ?_⟩) hS ?_); rotate_left; (focus (intro w' hSw; (have ec := fun j => cell_of_row w' B9 j _ _ _ hSw.1); (have ev := fun j => cell_of_row w' B11 j _ _ _ hSw.2); go_simp; (try with_reducible rfl)))
  (refine wpAnyH_take (i := 7) (v := ?_) rfl (by kernel_rfl) (by kernel_rfl) (by kernel_rfl) (fun _ _ _ h => h) (Or.inl ⟨by rfl, ?_⟩) hS ?_); rotate_left; (focus (intro w' hSw; (have ec := fun j => cell_of_row w' B9 j _ _ _ hSw.1); (have ev := fun j => cell_of_row w' B11 j _ _ _ hSw.2); go_simp; (try with_reducible rfl)))
  (refine wpAnyH_take (i := 8) (v := ?_) rfl (by kernel_rfl) (by kernel_rfl) (by kernel_rfl) (fun _ _ _ h => h) (Or.inl ⟨by rfl, ?_⟩) hS ?_); rotate_left; (focus (intro w' hSw; (have ec := fun j => cell_of_row w' B9 j _ _ _ hSw.1); (have ev := fun j => cell_of_row w' B11 j _ _ _ hSw.2); go_simp; (try with_reducible rfl)))
  (refine wpAnyH_take (i := 9) (v := ?_) rfl (by kernel_rfl) (by kernel_rfl) (by kernel_rfl) (fun _ _ _ h => h) (Or.inl ⟨by rfl, ?_⟩) hS ?_); rotate_left; (focus (intro w' hSw; (have ec := fun j => cell_of_row w' B9 j _ _ _ hSw.1); (have ev := fun j => cell_of_row w' B11 j _ _ _ hSw.2); go_simp; (try with_reducible rfl)))
  refine wpAnyH_ready (rs := [5]) (by kernel_rfl) (by simp) ?_
  refine AllReadyH.cons rfl (fun K hK => ?_) AllReadyH.nil
  go_simp
  refine cp.mono ?_
  rintro e w6 ⟨Br, Bw, rfl, hB6, hP6⟩
  have hS6 : w6.heap[B9]? = some (.cells #[.int .i64 8, .bool vw, .int .i64 0, .string ⟨#[]⟩, .slice none 0 0, .slice none 0 0, .int .u64 ba, .int .i64 fr, .int .i64 ln, .int .i64 nb] 69) ∧ w6.heap[B11]? = some (.cells #[.int .i64 vk, .int .i64 va, .int .u64 vb, .string vt, .int .u64 vr] 33) := ⟨(hB6.block B9 (lt_get hS.1)).trans hS.1, (hB6.block B11 (lt_get hS.2)).trans hS.2⟩
  have cv := HV.out w6 Br Bw (hBd.trans (hB6.mono hBd.size)) hP6
  refine hK.out _ _ hS6 (fun _ => ?_)
  clear hK K cp hS
  have hS := hS6
  (refine wpAnyH_take (i := 6) (v := ?_) rfl (by kernel_rfl) (by kernel_rfl) (by kernel_rfl) (fun _ _ _ h => h) (Or.inl ⟨by rfl, ?_⟩) hS ?_); rotate_left; (focus (intro w' hSw; go_simp; (try with_reducible rfl)))
  refine wpAnyH_ready (rs := [10]) (by kernel_rfl) (by simp) ?_
  refine AllReadyH.cons rfl (fun K hK => ?_) AllReadyH.nil
  go_simp
  refine cv.mono ?_
  rintro e w7 ⟨rfl, hU7, hP7⟩
  have hS7 : w7.heap[B9]? = some (.cells #[.int .i64 8, .bool vw, .int .i64 0, .string ⟨#[]⟩, .slice none 0 0, .slice none 0 0, .int .u64 ba, .int .i64 fr, .int .i64 ln, .int .i64 nb] 69) ∧ w7.heap[B11]? = some (.cells #[.int .i64 vk, .int .i64 va, .int .u64 vb, .string vt, .int .u64 vr] 33) := ⟨(hU7.block B9 (lt_get hS.1) nT.out.1).trans hS.1, (hU7.block B11 (lt_get hS.2) nT.out.2).trans hS.2⟩
  have hUW : Upd T W w7 := (Upd.of_below (hBd.trans (hB6.mono hBd.size))).trans' hU7
  refine hK.out _ _ hS7 (fun _ => ?_)
  clear hK K cv hS hS6
  have hS := hS7
  (refine wpAnyH_take (i := 11) (v := ?_) rfl (by kernel_rfl) (by kernel_rfl) (by kernel_rfl) (fun _ _ _ h => h) (Or.inl ⟨by rfl, ?_⟩) hS ?_); rotate_left; (focus (intro w' hSw; go_simp; (try with_reducible rfl)))
  refine wpAnyH_done (by kernel_rfl) ?_ _
  go_wp2
  go_ret
  exact ⟨rfl, hUW, hP7⟩
set_option maxRecDepth 100000 in
set_option maxHeartbeats 1000000 in
/-- Store, over what Unbox answers and what the pair does -/
theorem store_shorts {w : Nat} {k2 : Int} {t p n : Nat} {bs : List Nat} (g : HLay W hb sb vc T H u h) (s : Spot H w 7 t p n k2 bs) (i : Nat) (hi : i * 2 + 2 ≤ n) (xw vk va vb vr : Int) (vt : ByteArray)
    (hun : ∀ w2, Below W.heap.size W w2 → Calls Tryz.prog 33 #[.pointer (some ⟨hb, 0, none⟩), .int .u64 xw] w2 fun e w' => e = .returned (.tuple #[.agg #[.int .i64 vk, .int .i64 va, .int .u64 vb, .string vt, .int .u64 vr], .int .i64 0]) ∧ Below w2.heap.size w2 w')
    (code : Int) (P : World → Prop) (hcl : ∀ w4 Br Bw, Below W.heap.size W w4 → PairAt w4 Br Bw hb w 2 → Calls Tryz.prog 106 #[.int .i64 i, .int .u64 xw, .agg #[.int .i64 vk, .int .i64 va, .int .u64 vb, .string vt, .int .u64 vr], .pointer (some ⟨Bw, 0, none⟩)] w4 fun e w' => e = .returned (.int .i64 code) ∧ Upd T w4 w' ∧ P w') :
    Calls Tryz.prog 10 #[.pointer (some ⟨hb, 0, none⟩), .int .u64 w, .int .i64 i, .int .u64 xw] W fun e w' => e = .returned (.int .i64 code) ∧ Upd T W w' ∧ P w' := by
  obtain ⟨id, c, hit0, hc, hth, hk0, hcn⟩ := spot_thing s (by decide)
  have hcnt : i < c.cnt := by rw [hcn]; show i < n / 2; omega
  have ce := elem_c g w s.w64 id hit0 c hc hth i (by omega) (by omega)
  unfold ThPost at ce
  rw [hk0] at ce
  have hl8 : bs.length ≤ 8388608 := (g.ok t _ s.cell).2.2
  have hiw : IntKind.i64.wrap (i : Int) = i := by have := s.fit; rw [IntKind.wrap_i64]; omega
  have HV := hid hcl
  have HU := hid hun
  have HT : Hid (∀ k, T k → k < W.heap.size) := hid g.tlt
  generalize c.cl.view = vw at *
  generalize ((c.bytes.length : Nat) : Int) = nb at *
  generalize c.cl.base = ba at *
  generalize c.cl.frm = fr at *
  generalize c.cl.len = ln at *
  clear g s hi hcl hun hc hth hk0 hcn hcnt hit0 hl8
  go_enter Tryz.func10, Tryz.ntmps10
  go_upto_region 2 with (go_at_call 32; (with_reducible refine ce.mono ?_); rintro e w2 ⟨rfl, hB2⟩; clear ce)
  have hB3 : Below w2.heap.size w2 (w2.alloc (.cells #[.int .i64 7, .bool vw, .int .i64 0, .string ⟨#[]⟩, .slice none 0 0, .slice none 0 0, .int .u64 ba, .int .i64 fr, .int .i64 ln, .int .i64 nb] 69)) := (Below.refl _ w2).alloc (Nat.le_refl _) _
  have f3 := World.alloc_heap_new w2 (.cells #[.int .i64 7, .bool vw, .int .i64 0, .string ⟨#[]⟩, .slice none 0 0, .slice none 0 0, .int .u64 ba, .int .i64 fr, .int .i64 ln, .int .i64 nb] 69)
  have hbel := hB2.trans (hB3.mono hB2.size)
  have hz2 := hB2.size
  generalize w2.alloc (.cells #[.int .i64 7, .bool vw, .int .i64 0, .string ⟨#[]⟩, .slice none 0 0, .slice none 0 0, .int .u64 ba, .int .i64 fr, .int .i64 ln, .int .i64 nb] 69) = w3 at *
  generalize w2.heap.size = B9 at *
  have cu := HU.out w3 hbel
  go_upto_region 5 with (go_at_call 33; (with_reducible refine cu.mono ?_); rintro e w4 ⟨rfl, hB4⟩; clear cu)
  have hB5 : Below w4.heap.size w4 (w4.alloc (.cells #[.int .i64 vk, .int .i64 va, .int .u64 vb, .string vt, .int .u64 vr] 33)) := (Below.refl _ w4).alloc (Nat.le_refl _) _
  have f5 := World.alloc_heap_new w4 (.cells #[.int .i64 vk, .int .i64 va, .int .u64 vb, .string vt, .int .u64 vr] 33)
  have f35 : (w4.alloc (.cells #[.int .i64 vk, .int .i64 va, .int .u64 vb, .string vt, .int .u64 vr] 33)).heap[B9]? = some (.cells #[.int .i64 7, .bool vw, .int .i64 0, .string ⟨#[]⟩, .slice none 0 0, .slice none 0 0, .int .u64 ba, .int .i64 fr, .int .i64 ln, .int .i64 nb] 69) := (hB5.block B9 (Nat.lt_of_lt_of_le (lt_get f3) hB4.size)).trans ((hB4.block B9 (lt_get f3)).trans f3)
  have hbel5 := (hbel.trans (hB4.mono hbel.size)).trans (hB5.mono (Nat.le_trans hbel.size hB4.size))
  have hz4 : W.heap.size ≤ w4.heap.size := Nat.le_trans hbel.size hB4.size
  generalize w4.alloc (.cells #[.int .i64 vk, .int .i64 va, .int .u64 vb, .string vt, .int .u64 vr] 33) = w5 at *
  generalize w4.heap.size = B11 at *
  have nT : Hid (¬ T B9 ∧ ¬ T B11) := hid ⟨fun e => by have := HT.out _ e; omega, fun e => by have := HT.out _ e; omega⟩
  clear hB4 hB5 hB2 hB3 hbel f3 HU hz2 hz4 HT
  go_upto_region 7 with fail
  have hBd : Below W.heap.size W w5.drew := ⟨hbel5.os, hbel5.tape, hbel5.output, hbel5.size, hbel5.block⟩
  have pf := fun f g cs ds w => pair_f1 f g cs ds w
  have cp := pairOf_shorts w5.drew hb w
  refine wp_region_held_drew (S := fun w' => w'.heap[B9]? = some (.cells #[.int .i64 7, .bool vw, .int .i64 0, .string ⟨#[]⟩, .slice none 0 0, .slice none 0 0, .int .u64 ba, .int .i64 fr, .int .i64 ln, .int .i64 nb] 69) ∧ w'.heap[B11]? = some (.cells #[.int .i64 vk, .int .i64 va, .int .u64 vb, .string vt, .int .u64 vr] 33)) (by kernel_rfl) ⟨f35, f5⟩ ?_
  intro hS
  (refine wpAnyH_take (i := 0) (v := ?_) rfl (by kernel_rfl) (by kernel_rfl) (by kernel_rfl) (fun _ _ _ h => h) (Or.inl ⟨by rfl, ?_⟩) hS ?_); rotate_left; (focus (intro w' hSw; (have ec := fun j => cell_of_row w' B9 j _ _ _ hSw.1); (have ev := fun j => cell_of_row w' B11 j _ _ _ hSw.2); go_simp; (try with_reducible rfl)))
  (refine wpAnyH_take (i := 1) (v := ?_) rfl (by kernel_rfl) (by kernel_rfl) (by kernel_rfl) (fun _ _ _ h => h) (Or.inl ⟨by rfl, ?_⟩) hS ?_); rotate_left; (focus (intro w' hSw; (have ec := fun j => cell_of_row w' B9 j _ _ _ hSw.1); (have ev := fun j => cell_of_row w' B11 j _ _ _ hSw.2); go_simp; (try with_reducible rfl)))
  (refine wpAnyH_take (i := 2) (v := ?_) rfl (by kernel_rfl) (by kernel_rfl) (by kernel_rfl) (fun _ _ _ h => h) (Or.inl ⟨by rfl, ?_⟩) hS ?_); rotate_left; (focus (intro w' hSw; (have ec := fun j => cell_of_row w' B9 j _ _ _ hSw.1); (have ev := fun j => cell_of_row w' B11 j _ _ _ hSw.2); go_simp; (try with_reducible rfl)))
  (refine wpAnyH_take (i := 3) (v := ?_) rfl (by kernel_rfl) (by kernel_rfl) (by kernel_rfl) (fun _ _ _ h => h) (Or.inl ⟨by rfl, ?_⟩) hS ?_); rotate_left; (focus (intro w' hSw; (have ec := fun j => cell_of_row w' B9 j _ _ _ hSw.1); (have ev := fun j => cell_of_row w' B11 j _ _ _ hSw.2); go_simp; (try with_reducible rfl)))
  (refine wpAnyH_take (i := 4) (v := ?_) rfl (by kernel_rfl) (by kernel_rfl) (by kernel_rfl) (fun _ _ _ h => h) (Or.inl ⟨by rfl, ?_⟩) hS ?_); rotate_left; (focus (intro w' hSw; (have ec := fun j => cell_of_row w' B9 j _ _ _ hSw.1); (have ev := fun j => cell_of_row w' B11 j _ _ _ hSw.2); go_simp; (try with_reducible rfl)))
  (refine wpAnyH_take (i := 7) (v := ?_) rfl (by kernel_rfl) (by kernel_rfl) (by kernel_rfl) (fun _ _ _ h => h) (Or.inl ⟨by rfl, ?_⟩) hS ?_); rotate_left; (focus (intro w' hSw; (have ec := fun j => cell_of_row w' B9 j _ _ _ hSw.1); (have ev := fun j => cell_of_row w' B11 j _ _ _ hSw.2); go_simp; (try with_reducible rfl)))
  (refine wpAnyH_take (i := 8) (v := ?_) rfl (by kernel_rfl) (by kernel_rfl) (by kernel_rfl) (fun _ _ _ h => h) (Or.inl ⟨by rfl, ?_⟩) hS ?_); rotate_left; (focus (intro w' hSw; (have ec := fun j => cell_of_row w' B9 j _ _ _ hSw.1); (have ev := fun j => cell_of_row w' B11 j _ _ _ hSw.2); go_simp; (try with_reducible rfl)))
  (refine wpAnyH_take (i := 9) (v := ?_) rfl (by kernel_rfl) (by kernel_rfl) (by kernel_rfl) (fun _ _ _ h => h) (Or.inl ⟨by rfl, ?_⟩) hS ?_); rotate_left; (focus (intro w' hSw; (have ec := fun j => cell_of_row w' B9 j _ _ _ hSw.1); (have ev := fun j => cell_of_row w' B11 j _ _ _ hSw.2); go_simp; (try with_reducible rfl)))
  refine wpAnyH_ready (rs := [5]) (by kernel_rfl) (by simp) ?_
  refine AllReadyH.cons rfl (fun K hK => ?_) AllReadyH.nil
  go_simp
  refine cp.mono ?_
  rintro e w6 ⟨Br, Bw, rfl, hB6, hP6⟩
  have hS6 : w6.heap[B9]? = some (.cells #[.int .i64 7, .bool vw, .int .i64 0, .string ⟨#[]⟩, .slice none 0 0, .slice none 0 0, .int .u64 ba, .int .i64 fr, .int .i64 ln, .int .i64 nb] 69) ∧ w6.heap[B11]? = some (.cells #[.int .i64 vk, .int .i64 va, .int .u64 vb, .string vt, .int .u64 vr] 33) := ⟨(hB6.block B9 (lt_get hS.1)).trans hS.1, (hB6.block B11 (lt_get hS.2)).trans hS.2⟩
  have cv := HV.out w6 Br Bw (hBd.trans (hB6.mono hBd.size)) hP6
  refine hK.out _ _ hS6 (fun _ => ?_)
  clear hK K cp hS
  have hS := hS6
  (refine wpAnyH_take (i := 6) (v := ?_) rfl (by kernel_rfl) (by kernel_rfl) (by kernel_rfl) (fun _ _ _ h => h) (Or.inl ⟨by rfl, ?_⟩) hS ?_); rotate_left; (focus (intro w' hSw; go_simp; (try with_reducible rfl)))
  refine wpAnyH_ready (rs := [10]) (by kernel_rfl) (by simp) ?_
  refine AllReadyH.cons rfl (fun K hK => ?_) AllReadyH.nil
  go_simp
  refine cv.mono ?_
  rintro e w7 ⟨rfl, hU7, hP7⟩
  have hS7 : w7.heap[B9]? = some (.cells #[.int .i64 7, .bool vw, .int .i64 0, .string ⟨#[]⟩, .slice none 0 0, .slice none 0 0, .int .u64 ba, .int .i64 fr, .int .i64 ln, .int .i64 nb] 69) ∧ w7.heap[B11]? = some (.cells #[.int .i64 vk, .int .i64 va, .int .u64 vb, .string vt, .int .u64 vr] 33) := ⟨(hU7.block B9 (lt_get hS.1) nT.out.1).trans hS.1, (hU7.block B11 (lt_get hS.2) nT.out.2).trans hS.2⟩
  have hUW : Upd T W w7 := (Upd.of_below (hBd.trans (hB6.mono hBd.size))).trans' hU7
  refine hK.out _ _ hS7 (fun _ => ?_)
  clear hK K cv hS hS6
  have hS := hS7
  (refine wpAnyH_take (i := 11) (v := ?_) rfl (by kernel_rfl) (by kernel_rfl) (by kernel_rfl) (fun _ _ _ h => h) (Or.inl ⟨by rfl, ?_⟩) hS ?_); rotate_left; (focus (intro w' hSw; go_simp; (try with_reducible rfl)))
  refine wpAnyH_done (by kernel_rfl) ?_ _
  go_wp2
  go_ret
  exact ⟨rfl, hUW, hP7⟩
theorem load_out (g : HLay W hb sb vc T H u h) (w : Nat) (hw : w < 18446744073709551616) (id : Nat) (hi : hit H w = some id) (c : Hc) (hc : H[id]? = some (some c)) (hth : isTh c) (i : Int) (h1 : ¬ (0 ≤ i ∧ i < (c.cnt : Nat))) :
    Calls Tryz.prog 11 #[.pointer (some ⟨hb, 0, none⟩), .int .u64 w, .int .i64 i] W fun e w' => e = .returned (.tuple #[.int .u64 0, .int .i64 31]) ∧ Below W.heap.size W w' := by
  have ce := elem_out g w hw id hi c hc hth i h1
  clear g hc hth h1 hi
  go_enter Tryz.func11, Tryz.ntmps11
  go_upto_region 2 with (go_at_call 32; (with_reducible refine ce.mono ?_); rintro e w2 ⟨rfl, hB2⟩; clear ce)
  have hB3 : Below w2.heap.size w2 (w2.alloc (.cells #[.int .i64 0, .bool false, .int .i64 0, .string ⟨#[]⟩, .slice none 0 0, .slice none 0 0, .int .u64 0, .int .i64 0, .int .i64 0, .int .i64 0] 69)) := (Below.refl _ w2).alloc (Nat.le_refl _) _
  have hbel := hB2.trans (hB3.mono hB2.size)
  generalize w2.alloc (.cells #[.int .i64 0, .bool false, .int .i64 0, .string ⟨#[]⟩, .slice none 0 0, .slice none 0 0, .int .u64 0, .int .i64 0, .int .i64 0, .int .i64 0] 69) = w3 at *
  go_wp2
  go_ret2
  exact ⟨rfl, hbel⟩
theorem store_out (g : HLay W hb sb vc T H u h) (w : Nat) (hw : w < 18446744073709551616) (id : Nat) (hi : hit H w = some id) (c : Hc) (hc : H[id]? = some (some c)) (hth : isTh c) (i xw : Int) (h1 : ¬ (0 ≤ i ∧ i < (c.cnt : Nat))) :
    Calls Tryz.prog 10 #[.pointer (some ⟨hb, 0, none⟩), .int .u64 w, .int .i64 i, .int .u64 xw] W fun e w' => e = .returned (.int .i64 31) ∧ Below W.heap.size W w' := by
  have ce := elem_out g w hw id hi c hc hth i h1
  clear g hc hth h1 hi
  go_enter Tryz.func10, Tryz.ntmps10
  go_upto_region 2 with (go_at_call 32; (with_reducible refine ce.mono ?_); rintro e w2 ⟨rfl, hB2⟩; clear ce)
  have hB3 : Below w2.heap.size w2 (w2.alloc (.cells #[.int .i64 0, .bool false, .int .i64 0, .string ⟨#[]⟩, .slice none 0 0, .slice none 0 0, .int .u64 0, .int .i64 0, .int .i64 0, .int .i64 0] 69)) := (Below.refl _ w2).alloc (Nat.le_refl _) _
  have hbel := hB2.trans (hB3.mono hB2.size)
  generalize w2.alloc (.cells #[.int .i64 0, .bool false, .int .i64 0, .string ⟨#[]⟩, .slice none 0 0, .slice none 0 0, .int .u64 0, .int .i64 0, .int .i64 0, .int .i64 0] 69) = w3 at *
  go_wp2
  go_ret
  exact ⟨rfl, hbel⟩
/-- a small whole number is stored -/
theorem store_oct {w : Nat} {k2 : Int} {t p n : Nat} {bs : List Nat} (g : HLay W hb sb vc T H u h) (s : Spot H w 8 t p n k2 bs) (i : Nat) (hi : i * 1 + 1 ≤ n) (j : Nat) (hj : j ≤ 255) :
    Calls Tryz.prog 10 #[.pointer (some ⟨hb, 0, none⟩), .int .u64 w, .int .i64 i, .int .u64 (intW j)] W fun e w' => e = .returned (.int .i64 0) ∧ Upd T W w' ∧ HLay w' hb sb vc T (H.set t (some (.buf k2 (saved bs (p + i * 1) j 1)))) u h := by
  have hs : smallB (j : Int) = true := by unfold smallB; rw [decide_eq_true_eq]; omega
  refine store_octets g s i hi (intW j) 2 j 0 0 ⟨#[]⟩ (fun w2 hB => unbox_sint j hs _ w2) 0 (fun w' => HLay w' hb sb vc T (H.set t (some (.buf k2 (saved bs (p + i * 1) j 1)))) u h) (fun w4 Br Bw hB hP => ?_)
  have := octets2_c (g.below hB) s hP i hi (by omega) (intW j) j (by omega)
  rw [show ((j : Int) % 18446744073709551616).toNat = j by omega] at this
  exact this
end
end Go.Proofs.YtenpopelbmeemaaGreat.W
/- Package buf: Store, of doubles and narrows. -/
namespace Go.Proofs.YtenpopelbmeemaaGreat.W
open Go.ChangeShapes Go.WideShapes Go.RowKit Go.Shelf
set_option linter.unusedVariables false
section
variable {W W' : World} {hb sb : Nat} {vc : Value} {T : Nat → Prop} {H : List (Option Hc)} {u h : Nat}
theorem double_int (i : Int) (x : Int) (hx : ∀ w, Calls Tryz.prog 135 #[.int .i64 i] w fun e w' => e = .returned (.int .u64 x) ∧ Below w.heap.size w w') (W : World) : Calls Tryz.prog 99 #[.agg #[.int .i64 2, .int .i64 i, .int .u64 0, .string ⟨#[]⟩, .int .u64 0]] W fun e w' => e = .returned (.tuple #[.int .u64 x, .int .i64 0]) ∧ Below W.heap.size W w' := by
  have hB1 : Below W.heap.size W (W.alloc (.cells #[.int .i64 2, .int .i64 i, .int .u64 0, .string ⟨#[]⟩, .int .u64 0] 33)) := (Below.refl _ W).alloc (Nat.le_refl _) _
  have e1 := World.cell?_alloc_new W #[.int .i64 2, .int .i64 i, .int .u64 0, .string ⟨#[]⟩, .int .u64 0] 33
  go_enter Tryz.func99, Tryz.ntmps99
  go_wp2_with (go_at_call 135; (with_reducible refine (hx _).mono ?_); rintro e w2 ⟨rfl, hB2⟩; clear hx)
  go_ret2
  exact ⟨rfl, hB1.trans (hB2.mono hB1.size)⟩
theorem double_flt (x : Int) (W : World) : Calls Tryz.prog 99 #[.agg #[.int .i64 3, .int .i64 0, .int .u64 x, .string ⟨#[]⟩, .int .u64 0]] W fun e w' => e = .returned (.tuple #[.int .u64 x, .int .i64 0]) ∧ Below W.heap.size W w' := by
  have hB1 : Below W.heap.size W (W.alloc (.cells #[.int .i64 3, .int .i64 0, .int .u64 x, .string ⟨#[]⟩, .int .u64 0] 33)) := (Below.refl _ W).alloc (Nat.le_refl _) _
  have e1 := World.cell?_alloc_new W #[.int .i64 3, .int .i64 0, .int .u64 x, .string ⟨#[]⟩, .int .u64 0] 33
  go_enter Tryz.func99, Tryz.ntmps99
  go_wp2
  go_ret2
  exact ⟨rfl, hB1⟩
theorem doubles2_c {w : Nat} {k2 : Int} {t p n Br Bw : Nat} {bs : List Nat} (g : HLay W hb sb vc T H u h) (s : Spot H w 5 t p n k2 bs) (r : PairAt W Br Bw hb w 8) (i : Nat) (hi : i * 8 + 8 ≤ n) (ha : (p + i * 8) % 8 = 0) (xw vk va vb vr : Int) (vt : ByteArray) (x : Nat) (hx64 : x < 18446744073709551616) (ci : ∀ w, Calls Tryz.prog 99 #[.agg #[.int .i64 vk, .int .i64 va, .int .u64 vb, .string vt, .int .u64 vr]] w fun e w' => e = .returned (.tuple #[.int .u64 (x : Nat), .int .i64 0]) ∧ Below w.heap.size w w') :
    Calls Tryz.prog 98 #[.int .i64 i, .int .u64 xw, .agg #[.int .i64 vk, .int .i64 va, .int .u64 vb, .string vt, .int .u64 vr], .pointer (some ⟨Bw, 0, none⟩)] W fun e w' => e = .returned (.int .i64 0) ∧ Upd T W w' ∧ HLay w' hb sb vc T (H.set t (some (.buf k2 (saved bs (p + i * 8) x 8)))) u h := by
  have hB1 : Below W.heap.size W (W.alloc (.cells #[.int .i64 vk, .int .i64 va, .int .u64 vb, .string vt, .int .u64 vr] 33)) := (Below.refl _ W).alloc (Nat.le_refl _) _
  have e1 := World.cell?_alloc_new W #[.int .i64 vk, .int .i64 va, .int .u64 vb, .string vt, .int .u64 vr] 33
  have hv : ∀ w2, Below W.heap.size W w2 → (∃ Bh Bx Bd, w2.cell? ⟨Bw, 0, none⟩ = some (.func (.func 133) #[] #[.pointer (some ⟨Bh, 0, none⟩), .pointer (some ⟨Bx, 0, none⟩), .pointer (some ⟨Bd, 0, none⟩)]) ∧ Calls Tryz.prog 133 #[.int .i64 i, .int .u64 (x : Nat), .pointer (some ⟨Bh, 0, none⟩), .pointer (some ⟨Bx, 0, none⟩), .pointer (some ⟨Bd, 0, none⟩)] w2 fun e w' => e = .returned (.int .i64 0) ∧ Hid (Upd T W w' ∧ HLay w' hb sb vc T (H.set t (some (.buf k2 (saved bs (p + i * 8) x 8)))) u h)) := by
    intro w2 hB2
    obtain ⟨Bh, Bx, Bd, hR, hr, hw⟩ := (r.below hB2).ex
    refine ⟨Bh, Bx, Bd, hw.cell, (raw2_c (g.below hB2) s hR (.inr (.inr (.inr rfl))) i hi ha _ hx64).mono ?_⟩
    rintro e w' ⟨rfl, hU, hL⟩
    exact ⟨rfl, (Upd.of_below hB2).trans' hU, hL⟩
  generalize (H.set t (some (.buf k2 (saved bs (p + i * 8) x 8)))) = HH at *
  have HV := hid hv
  have HB1 := hid hB1
  clear g s r hi ha hx64 hv hB1
  go_enter Tryz.func98, Tryz.ntmps98
  go_upto_region 4 with (go_at_call 99; (with_reducible refine (ci _).mono ?_); rintro e w2 ⟨rfl, hB2⟩; clear ci)
  obtain ⟨Bh, Bx, Bd, x1, cv⟩ := HV.out w2 (HB1.out.trans (hB2.mono HB1.out.size))
  go_wp2_with (go_at_call 133; (with_reducible refine cv.mono ?_); rintro e w3 ⟨rfl, hf⟩; clear cv)
  go_ret
  exact ⟨rfl, hf.out.1, hf.out.2⟩
set_option maxRecDepth 100000 in
set_option maxHeartbeats 1000000 in
/-- Store, over what Unbox answers and what the pair does -/
theorem store_doubles {w : Nat} {k2 : Int} {t p n : Nat} {bs : List Nat} (g : HLay W hb sb vc T H u h) (s : Spot H w 5 t p n k2 bs) (i : Nat) (hi : i * 8 + 8 ≤ n) (xw vk va vb vr : Int) (vt : ByteArray)
    (hun : ∀ w2, Below W.heap.size W w2 → Calls Tryz.prog 33 #[.pointer (some ⟨hb, 0, none⟩), .int .u64 xw] w2 fun e w' => e = .returned (.tuple #[.agg #[.int .i64 vk, .int .i64 va, .int .u64 vb, .string vt, .int .u64 vr], .int .i64 0]) ∧ Below w2.heap.size w2 w')
    (code : Int) (P : World → Prop) (hcl : ∀ w4 Br Bw, Below W.heap.size W w4 → PairAt w4 Br Bw hb w 8 → Calls Tryz.prog 98 #[.int .i64 i, .int .u64 xw, .agg #[.int .i64 vk, .int .i64 va, .int .u64 vb, .string vt, .int .u64 vr], .pointer (some ⟨Bw, 0, none⟩)] w4 fun e w' => e = .returned (.int .i64 code) ∧ Upd T w4 w' ∧ P w') :
    Calls Tryz.prog 10 #[.pointer (some ⟨hb, 0, none⟩), .int .u64 w, .int .i64 i, .int .u64 xw] W fun e w' => e = .returned (.int .i64 code) ∧ Upd T W w' ∧ P w' := by
  obtain ⟨id, c, hit0, hc, hth, hk0, hcn⟩ := spot_thing s (by decide)
  have hcnt : i < c.cnt := by rw [hcn]; show i < n / 8; omega
  have ce := elem_c g w s.w64 id hit0 c hc hth i (by omega) (by omega)
  unfold ThPost at ce
  rw [hk0] at ce
  have hl8 : bs.length ≤ 8388608 := (g.ok t _ s.cell).2.2
  have hiw : IntKind.i64.wrap (i : Int) = i := by have := s.fit; rw [IntKind.wrap_i64]; omega
  have HV := hid hcl
  have HU := hid hun
  have HT : Hid (∀ k, T k → k < W.heap.size) := hid g.tlt
  generalize c.cl.view = vw at *
  generalize ((c.bytes.length : Nat) : Int) = nb at *
  generalize c.cl.base = ba at *
  generalize c.cl.frm = fr at *
  generalize c.cl.len = ln at *
  clear g s hi hcl hun hc hth hk0 hcn hcnt hit0 hl8
  go_enter Tryz.func10, Tryz.ntmps10
  go_upto_region 2 with (go_at_call 32; (with_reducible refine ce.mono ?_); rintro e w2 ⟨rfl, hB2⟩; clear ce)
  have hB3 : Below w2.heap.size w2 (w2.alloc (.cells #[.int .i64 5, .bool vw, .int .i64 0, .string ⟨#[]⟩, .slice none 0 0, .slice none 0 0, .int .u64 ba, .int .i64 fr, .int .i64 ln, .int .i64 nb] 69)) := (Below.refl _ w2).alloc (Nat.le_refl _) _
  have f3 := World.alloc_heap_new w2 (.cells #[.int .i64 5, .bool vw, .int .i64 0, .string ⟨#[]⟩, .slice none 0 0, .slice none 0 0, .int .u64 ba, .int .i64 fr, .int .i64 ln, .int .i64 nb] 69)
  have hbel := hB2.trans (hB3.mono hB2.size)
  have hz2 := hB2.size
  generalize w2.alloc (.cells #[.int .i64 5, .bool vw, .int .i64 0, .string ⟨#[]⟩, .slice none 0 0, .slice none 0 0, .int .u64 ba, .int .i64 fr, .int .i64 ln, .int .i64 nb] 69) = w3 at *
  generalize w2.heap.size = B9 at *
  have cu := HU.out w3 hbel
  go_upto_region 5 with (go_at_call 33; (with_reducible refine cu.mono ?_); rintro e w4 ⟨rfl, hB4⟩; clear cu)
  have hB5 : Below w4.heap.size w4 (w4.alloc (.cells #[.int .i64 vk, .int .i64 va, .int .u64 vb, .string vt, .int .u64 vr] 33)) := (Below.refl _ w4).alloc (Nat.le_refl _) _
  have f5 := World.alloc_heap_new w4 (.cells #[.int .i64 vk, .int .i64 va, .int .u64 vb, .string vt, .int .u64 vr] 33)
  have f35 : (w4.alloc (.cells #[.int .i64 vk, .int .i64 va, .int .u64 vb, .string vt, .int .u64 vr] 33)).heap[B9]? = some (.cells #[.int .i64 5, .bool vw, .int .i64 0, .string ⟨#[]⟩, .slice none 0 0, .slice none 0 0, .int .u64 ba, .int .i64 fr, .int .i64 ln, .int .i64 nb] 69) := (hB5.block B9 (Nat.lt_of_lt_of_le (lt_get f3) hB4.size)).trans ((hB4.block B9 (lt_get f3)).trans f3)
  have hbel5 := (hbel.trans (hB4.mono hbel.size)).trans (hB5.mono (Nat.le_trans hbel.size hB4.size))
  have hz4 : W.heap.size ≤ w4.heap.size := Nat.le_trans hbel.size hB4.size
  generalize w4.alloc (.cells #[.int .i64 vk, .int .i64 va, .int .u64 vb, .string vt, .int .u64 vr] 33) = w5 at *
  generalize w4.heap.size = B11 at *
  have nT : Hid (¬ T B9 ∧ ¬ T B11) := hid ⟨fun e => by have := HT.out _ e; omega, fun e => by have := HT.out _ e; omega⟩
  clear hB4 hB5 hB2 hB3 hbel f3 HU hz2 hz4 HT
  go_upto_region 7 with fail
  have hBd : Below W.heap.size W w5.drew := ⟨hbel5.os, hbel5.tape, hbel5.output, hbel5.size, hbel5.block⟩
  have pf := fun f g cs ds w => pair_f1 f g cs ds w
  have cp := pairOf_doubles w5.drew hb w
  refine wp_region_held_drew (S := fun w' => w'.heap[B9]? = some (.cells #[.int .i64 5, .bool vw, .int .i64 0, .string ⟨#[]⟩, .slice none 0 0, .slice none 0 0, .int .u64 ba, .int .i64 fr, .int .i64 ln, .int .i64 nb] 69) ∧ w'.heap[B11]? = some (.cells #[.int .i64 vk, .int .i64 va, .int .u64 vb, .string vt, .int .u64 vr] 33)) (by kernel_rfl) ⟨f35, f5⟩ ?_
  intro hS
  (refine wpAnyH_take (i := 0) (v := ?_) rfl (by kernel_rfl) (by kernel_rfl) (by kernel_rfl) (fun _ _ _ h => h) (Or.inl ⟨by rfl, ?_⟩) hS ?_); rotate_left; (focus (intro w' hSw; (have ec := fun j => cell_of_row w' B9 j _ _ _ hSw.1); (have ev := fun j => cell_of_row w' B11 j _ _ _ hSw.2); go_simp; (try with_reducible rfl)))
  (refine wpAnyH_take (i := 1) (v := ?_) rfl (by kernel_rfl) (by kernel_rfl) (by kernel_rfl) (fun _ _ _ h => h) (Or.inl ⟨by rfl, ?_⟩) hS ?_); rotate_left; (focus (intro w' hSw; (have ec := fun j => cell_of_row w' B9 j _ _ _ hSw.1); (have ev := fun j => cell_of_row w' B11 j _ _ _ hSw.2); go_simp; (try with_reducible rfl)))
  (refine wpAnyH_take (i := 2) (v := ?_) rfl (by kernel_rfl) (by kernel_rfl) (by kernel_rfl) (fun _ _ _ h => h) (Or.inl ⟨by rfl, ?_⟩) hS ?_); rotate_left; (focus (intro w' hSw; (have ec := fun j => cell_of_row w' B9 j _ _ _ hSw.1); (have ev := fun j => cell_of_row w' B11 j _ _ _ hSw.2); go_simp; (try with_reducible rfl)))
  (refine wpAnyH_take (i := 3) (v := ?_) rfl (by kernel_rfl) (by kernel_rfl) (by kernel_rfl) (fun _ _ _ h => h) (Or.inl ⟨by rfl, ?_⟩) hS ?_); rotate_left; (focus (intro w' hSw; (have ec := fun j => cell_of_row w' B9 j _ _ _ hSw.1); (have ev := fun j => cell_of_row w' B11 j _ _ _ hSw.2); go_simp; (try with_reducible rfl)))
  (refine wpAnyH_take (i := 4) (v := ?_) rfl (by kernel_rfl) (by kernel_rfl) (by kernel_rfl) (fun _ _ _ h => h) (Or.inl ⟨by rfl, ?_⟩) hS ?_); rotate_left; (focus (intro w' hSw; (have ec := fun j => cell_of_row w' B9 j _ _ _ hSw.1); (have ev := fun j => cell_of_row w' B11 j _ _ _ hSw.2); go_simp; (try with_reducible rfl)))
  (refine wpAnyH_take (i := 7) (v := ?_) rfl (by kernel_rfl) (by kernel_rfl) (by kernel_rfl) (fun _ _ _ h => h) (Or.inl ⟨by rfl, ?_⟩) hS ?_); rotate_left; (focus (intro w' hSw; (have ec := fun j => cell_of_row w' B9 j _ _ _ hSw.1); (have ev := fun j => cell_of_row w' B11 j _ _ _ hSw.2); go_simp; (try with_reducible rfl)))
  (refine wpAnyH_take (i := 8) (v := ?_) rfl (by kernel_rfl) (by kernel_rfl) (by kernel_rfl) (fun _ _ _ h => h) (Or.inl ⟨by rfl, ?_⟩) hS ?_); rotate_left; (focus (intro w' hSw; (have ec := fun j => cell_of_row w' B9 j _ _ _ hSw.1); (have ev := fun j => cell_of_row w' B11 j _ _ _ hSw.2); go_simp; (try with_reducible rfl)))
  (refine wpAnyH_take (i := 9) (v := ?_) rfl (by kernel_rfl) (by kernel_rfl) (by kernel_rfl) (fun _ _ _ h => h) (Or.inl ⟨by rfl, ?_⟩) hS ?_); rotate_left; (focus (intro w' hSw; (have ec := fun j => cell_of_row w' B9 j _ _ _ hSw.1); (have ev := fun j => cell_of_row w' B11 j _ _ _ hSw.2); go_simp; (try with_reducible rfl)))
  refine wpAnyH_ready (rs := [5]) (by kernel_rfl) (by simp) ?_
  refine AllReadyH.cons rfl (fun K hK => ?_) AllReadyH.nil
  go_simp
  refine cp.mono ?_
  rintro e w6 ⟨Br, Bw, rfl, hB6, hP6⟩
  have hS6 : w6.heap[B9]? = some (.cells #[.int .i64 5, .bool vw, .int .i64 0, .string ⟨#[]⟩, .slice none 0 0, .slice none 0 0, .int .u64 ba, .int .i64 fr, .int .i64 ln, .int .i64 nb] 69) ∧ w6.heap[B11]? = some (.cells #[.int .i64 vk, .int .i64 va, .int .u64 vb, .string vt, .int .u64 vr] 33) := ⟨(hB6.block B9 (lt_get hS.1)).trans hS.1, (hB6.block B11 (lt_get hS.2)).trans hS.2⟩
  have cv := HV.out w6 Br Bw (hBd.trans (hB6.mono hBd.size)) hP6
  refine hK.out _ _ hS6 (fun _ => ?_)
  clear hK K cp hS
  have hS := hS6
  (refine wpAnyH_take (i := 6) (v := ?_) rfl (by kernel_rfl) (by kernel_rfl) (by kernel_rfl) (fun _ _ _ h => h) (Or.inl ⟨by rfl, ?_⟩) hS ?_); rotate_left; (focus (intro w' hSw; go_simp; (try with_reducible rfl)))
  refine wpAnyH_ready (rs := [10]) (by kernel_rfl) (by simp) ?_
  refine AllReadyH.cons rfl (fun K hK => ?_) AllReadyH.nil
  go_simp
  refine cv.mono ?_
  rintro e w7 ⟨rfl, hU7, hP7⟩
  have hS7 : w7.heap[B9]? = some (.cells #[.int .i64 5, .bool vw, .int .i64 0, .string ⟨#[]⟩, .slice none 0 0, .slice none 0 0, .int .u64 ba, .int .i64 fr, .int .i64 ln, .int .i64 nb] 69) ∧ w7.heap[B11]? = some (.cells #[.int .i64 vk, .int .i64 va, .int .u64 vb, .string vt, .int .u64 vr] 33) := ⟨(hU7.block B9 (lt_get hS.1) nT.out.1).trans hS.1, (hU7.block B11 (lt_get hS.2) nT.out.2).trans hS.2⟩
  have hUW : Upd T W w7 := (Upd.of_below (hBd.trans (hB6.mono hBd.size))).trans' hU7
  refine hK.out _ _ hS7 (fun _ => ?_)
  clear hK K cv hS hS6
  have hS := hS7
  (refine wpAnyH_take (i := 11) (v := ?_) rfl (by kernel_rfl) (by kernel_rfl) (by kernel_rfl) (fun _ _ _ h => h) (Or.inl ⟨by rfl, ?_⟩) hS ?_); rotate_left; (focus (intro w' hSw; go_simp; (try with_reducible rfl)))
  refine wpAnyH_done (by kernel_rfl) ?_ _
  go_wp2
  go_ret
  exact ⟨rfl, hUW, hP7⟩
set_option maxRecDepth 100000 in
set_option maxHeartbeats 1000000 in
/-- Store, over what Unbox answers and what the pair does -/
theorem store_narrows {w : Nat} {k2 : Int} {t p n : Nat} {bs : List Nat} (g : HLay W hb sb vc T H u h) (s : Spot H w 6 t p n k2 bs) (i : Nat) (hi : i * 4 + 4 ≤ n) (xw vk va vb vr : Int) (vt : ByteArray)
    (hun : ∀ w2, Below W.heap.size W w2 → Calls Tryz.prog 33 #[.pointer (some ⟨hb, 0, none⟩), .int .u64 xw] w2 fun e w' => e = .returned (.tuple #[.agg #[.int .i64 vk, .int .i64 va, .int .u64 vb, .string vt, .int .u64 vr], .int .i64 0]) ∧ Below w2.heap.size w2 w')
    (code : Int) (P : World → Prop) (hcl : ∀ w4 Br Bw, Below W.heap.size W w4 → PairAt w4 Br Bw hb w 4 → Calls Tryz.prog 102 #[.int .i64 i, .int .u64 xw, .agg #[.int .i64 vk, .int .i64 va, .int .u64 vb, .string vt, .int .u64 vr], .pointer (some ⟨Bw, 0, none⟩)] w4 fun e w' => e = .returned (.int .i64 code) ∧ Upd T w4 w' ∧ P w') :
    Calls Tryz.prog 10 #[.pointer (some ⟨hb, 0, none⟩), .int .u64 w, .int .i64 i, .int .u64 xw] W fun e w' => e = .returned (.int .i64 code) ∧ Upd T W w' ∧ P w' := by
  obtain ⟨id, c, hit0, hc, hth, hk0, hcn⟩ := spot_thing s (by decide)
  have hcnt : i < c.cnt := by rw [hcn]; show i < n / 4; omega
  have ce := elem_c g w s.w64 id hit0 c hc hth i (by omega) (by omega)
  unfold ThPost at ce
  rw [hk0] at ce
  have hl8 : bs.length ≤ 8388608 := (g.ok t _ s.cell).2.2
  have hiw : IntKind.i64.wrap (i : Int) = i := by have := s.fit; rw [IntKind.wrap_i64]; omega
  have HV := hid hcl
  have HU := hid hun
  have HT : Hid (∀ k, T k → k < W.heap.size) := hid g.tlt
  generalize c.cl.view = vw at *
  generalize ((c.bytes.length : Nat) : Int) = nb at *
  generalize c.cl.base = ba at *
  generalize c.cl.frm = fr at *
  generalize c.cl.len = ln at *
  clear g s hi hcl hun hc hth hk0 hcn hcnt hit0 hl8
  go_enter Tryz.func10, Tryz.ntmps10
  go_upto_region 2 with (go_at_call 32; (with_reducible refine ce.mono ?_); rintro e w2 ⟨rfl, hB2⟩; clear ce)
  have hB3 : Below w2.heap.size w2 (w2.alloc (.cells #[.int .i64 6, .bool vw, .int .i64 0, .string ⟨#[]⟩, .slice none 0 0, .slice none 0 0, .int .u64 ba, .int .i64 fr, .int .i64 ln, .int .i64 nb] 69)) := (Below.refl _ w2).alloc (Nat.le_refl _) _
  have f3 := World.alloc_heap_new w2 (.cells #[.int .i64 6, .bool vw, .int .i64 0, .string ⟨#[]⟩, .slice none 0 0, .slice none 0 0, .int .u64 ba, .int .i64 fr, .int .i64 ln, .int .i64 nb] 69)
  have hbel := hB2.trans (hB3.mono hB2.size)
  have hz2 := hB2.size
  generalize w2.alloc (.cells #[.int .i64 6, .bool vw, .int .i64 0, .string ⟨#[]⟩, .slice none 0 0, .slice none 0 0, .int .u64 ba, .int .i64 fr, .int .i64 ln, .int .i64 nb] 69) = w3 at *
  generalize w2.heap.size = B9 at *
  have cu := HU.out w3 hbel
  go_upto_region 5 with (go_at_call 33; (with_reducible refine cu.mono ?_); rintro e w4 ⟨rfl, hB4⟩; clear cu)
  have hB5 : Below w4.heap.size w4 (w4.alloc (.cells #[.int .i64 vk, .int .i64 va, .int .u64 vb, .string vt, .int .u64 vr] 33)) := (Below.refl _ w4).alloc (Nat.le_refl _) _
  have f5 := World.alloc_heap_new w4 (.cells #[.int .i64 vk, .int .i64 va, .int .u64 vb, .string vt, .int .u64 vr] 33)
  have f35 : (w4.alloc (.cells #[.int .i64 vk, .int .i64 va, .int .u64 vb, .string vt, .int .u64 vr] 33)).heap[B9]? = some (.cells #[.int .i64 6, .bool vw, .int .i64 0, .string ⟨#[]⟩, .slice none 0 0, .slice none 0 0, .int .u64 ba, .int .i64 fr, .int .i64 ln, .int .i64 nb] 69) := (hB5.block B9 (Nat.lt_of_lt_of_le (lt_get f3) hB4.size)).trans ((hB4.block B9 (lt_get f3)).trans f3)
  have hbel5 := (hbel.trans (hB4.mono hbel.size)).trans (hB5.mono (Nat.le_trans hbel.size hB4.size))
  have hz4 : W.heap.size ≤ w4.heap.size := Nat.le_trans hbel.size hB4.size
  generalize w4.alloc (.cells #[.int .i64 vk, .int .i64 va, .int .u64 vb, .string vt, .int .u64 vr] 33) = w5 at *
  generalize w4.heap.size = B11 at *
  have nT : Hid (¬ T B9 ∧ ¬ T B11) := hid ⟨fun e => by have := HT.out _ e; omega, fun e => by have := HT.out _ e; omega⟩
  clear hB4 hB5 hB2 hB3 hbel f3 HU hz2 hz4 HT
  go_upto_region 7 with fail
  have hBd : Below W.heap.size W w5.drew := ⟨hbel5.os, hbel5.tape, hbel5.output, hbel5.size, hbel5.block⟩
  have pf := fun f g cs ds w => pair_f1 f g cs ds w
  have cp := pairOf_narrows w5.drew hb w
  refine wp_region_held_drew (S := fun w' => w'.heap[B9]? = some (.cells #[.int .i64 6, .bool vw, .int .i64 0, .string ⟨#[]⟩, .slice none 0 0, .slice none 0 0, .int .u64 ba, .int .i64 fr, .int .i64 ln, .int .i64 nb] 69) ∧ w'.heap[B11]? = some (.cells #[.int .i64 vk, .int .i64 va, .int .u64 vb, .string vt, .int .u64 vr] 33)) (by kernel_rfl) ⟨f35, f5⟩ ?_
  intro hS
  (refine wpAnyH_take (i := 0) (v := ?_) rfl (by kernel_rfl) (by kernel_rfl) (by kernel_rfl) (fun _ _ _ h => h) (Or.inl ⟨by rfl, ?_⟩) hS ?_); rotate_left; (focus (intro w' hSw; (have ec := fun j => cell_of_row w' B9 j _ _ _ hSw.1); (have ev := fun j => cell_of_row w' B11 j _ _ _ hSw.2); go_simp; (try with_reducible rfl)))
  (refine wpAnyH_take (i := 1) (v := ?_) rfl (by kernel_rfl) (by kernel_rfl) (by kernel_rfl) (fun _ _ _ h => h) (Or.inl ⟨by rfl, ?_⟩) hS ?_); rotate_left; (focus (intro w' hSw; (have ec := fun j => cell_of_row w' B9 j _ _ _ hSw.1); (have ev := fun j => cell_of_row w' B11 j _ _ _ hSw.2); go_simp; (try with_reducible rfl)))
  (refine wpAnyH_take (i := 2) (v := ?_) rfl (by kernel_rfl) (by kernel_rfl) (by kernel_rfl) (fun _ _ _ h => h) (Or.inl ⟨by rfl, ?_⟩) hS ?_); rotate_left; (focus (intro w' hSw; (have ec := fun j => cell_of_row w' B9 j _ _ _ hSw.1); (have ev := fun j => cell_of_row w' B11 j _ _ _ hSw.2); go_simp; (try with_reducible rfl)))
  (refine wpAnyH_take (i := 3) (v := ?_) rfl (by kernel_rfl) (by kernel_rfl) (by kernel_rfl) (fun _ _ _ h => h) (Or.inl ⟨by rfl, ?_⟩) hS ?_); rotate_left; (focus (intro w' hSw; (have ec := fun j => cell_of_row w' B9 j _ _ _ hSw.1); (have ev := fun j => cell_of_row w' B11 j _ _ _ hSw.2); go_simp; (try with_reducible rfl)))
  (refine wpAnyH_take (i := 4) (v := ?_) rfl (by kernel_rfl) (by kernel_rfl) (by kernel_rfl) (fun _ _ _ h => h) (Or.inl ⟨by rfl, ?_⟩) hS ?_); rotate_left; (focus (intro w' hSw; (have ec := fun j => cell_of_row w' B9 j _ _ _ hSw.1); (have ev := fun j => cell_of_row w' B11 j _ _ _ hSw.2); go_simp; (try with_reducible rfl)))
  (refine wpAnyH_take (i := 7) (v := ?_) rfl (by kernel_rfl) (by kernel_rfl) (by kernel_rfl) (fun _ _ _ h => h) (Or.inl ⟨by rfl, ?_⟩) hS ?_); rotate_left; (focus (intro w' hSw; (have ec := fun j => cell_of_row w' B9 j _ _ _ hSw.1); (have ev := fun j => cell_of_row w' B11 j _ _ _ hSw.2); go_simp; (try with_reducible rfl)))
  (refine wpAnyH_take (i := 8) (v := ?_) rfl (by kernel_rfl) (by kernel_rfl) (by kernel_rfl) (fun _ _ _ h => h) (Or.inl ⟨by rfl, ?_⟩) hS ?_); rotate_left; (focus (intro w' hSw; (have ec := fun j => cell_of_row w' B9 j _ _ _ hSw.1); (have ev := fun j => cell_of_row w' B11 j _ _ _ hSw.2); go_simp; (try with_reducible rfl)))
  (refine wpAnyH_take (i := 9) (v := ?_) rfl (by kernel_rfl) (by kernel_rfl) (by kernel_rfl) (fun _ _ _ h => h) (Or.inl ⟨by rfl, ?_⟩) hS ?_); rotate_left; (focus (intro w' hSw; (have ec := fun j => cell_of_row w' B9 j _ _ _ hSw.1); (have ev := fun j => cell_of_row w' B11 j _ _ _ hSw.2); go_simp; (try with_reducible rfl)))
  refine wpAnyH_ready (rs := [5]) (by kernel_rfl) (by simp) ?_
  refine AllReadyH.cons rfl (fun K hK => ?_) AllReadyH.nil
  go_simp
  refine cp.mono ?_
  rintro e w6 ⟨Br, Bw, rfl, hB6, hP6⟩
  have hS6 : w6.heap[B9]? = some (.cells #[.int .i64 6, .bool vw, .int .i64 0, .string ⟨#[]⟩, .slice none 0 0, .slice none 0 0, .int .u64 ba, .int .i64 fr, .int .i64 ln, .int .i64 nb] 69) ∧ w6.heap[B11]? = some (.cells #[.int .i64 vk, .int .i64 va, .int .u64 vb, .string vt, .int .u64 vr] 33) := ⟨(hB6.block B9 (lt_get hS.1)).trans hS.1, (hB6.block B11 (lt_get hS.2)).trans hS.2⟩
  have cv := HV.out w6 Br Bw (hBd.trans (hB6.mono hBd.size)) hP6
  refine hK.out _ _ hS6 (fun _ => ?_)
  clear hK K cp hS
  have hS := hS6
  (refine wpAnyH_take (i := 6) (v := ?_) rfl (by kernel_rfl) (by kernel_rfl) (by kernel_rfl) (fun _ _ _ h => h) (Or.inl ⟨by rfl, ?_⟩) hS ?_); rotate_left; (focus (intro w' hSw; go_simp; (try with_reducible rfl)))
  refine wpAnyH_ready (rs := [10]) (by kernel_rfl) (by simp) ?_
  refine AllReadyH.cons rfl (fun K hK => ?_) AllReadyH.nil
  go_simp
  refine cv.mono ?_
  rintro e w7 ⟨rfl, hU7, hP7⟩
  have hS7 : w7.heap[B9]? = some (.cells #[.int .i64 6, .bool vw, .int .i64 0, .string ⟨#[]⟩, .slice none 0 0, .slice none 0 0, .int .u64 ba, .int .i64 fr, .int .i64 ln, .int .i64 nb] 69) ∧ w7.heap[B11]? = some (.cells #[.int .i64 vk, .int .i64 va, .int .u64 vb, .string vt, .int .u64 vr] 33) := ⟨(hU7.block B9 (lt_get hS.1) nT.out.1).trans hS.1, (hU7.block B11 (lt_get hS.2) nT.out.2).trans hS.2⟩
  have hUW : Upd T W w7 := (Upd.of_below (hBd.trans (hB6.mono hBd.size))).trans' hU7
  refine hK.out _ _ hS7 (fun _ => ?_)
  clear hK K cv hS hS6
  have hS := hS7
  (refine wpAnyH_take (i := 11) (v := ?_) rfl (by kernel_rfl) (by kernel_rfl) (by kernel_rfl) (fun _ _ _ h => h) (Or.inl ⟨by rfl, ?_⟩) hS ?_); rotate_left; (focus (intro w' hSw; go_simp; (try with_reducible rfl)))
  refine wpAnyH_done (by kernel_rfl) ?_ _
  go_wp2
  go_ret
  exact ⟨rfl, hUW, hP7⟩
end
end Go.Proofs.YtenpopelbmeemaaGreat.W
