import Derived.Test.YthgmcfhknaioeaaGreatBase11
/- Package buf: Load, of doubles and narrows. -/
namespace Go.Proofs.YthgmcfhknaioeaaGreat.W
open Go.ChangeShapes Go.WideShapes Go.RowKit Go.Shelf
set_option linter.unusedVariables false
section
variable {W W' : World} {hb sb : Nat} {vc : Value} {T : Nat → Prop} {H : List (Option Hc)} {u h : Nat}
set_option maxRecDepth 100000 in
theorem pairOf_doubles (W : World) (hb w : Nat) (vw : Bool) (ob ow : Option Addr) (bl bc wl wc : Nat) (ba fr ln : Int) : Calls Tryz.prog 34 #[.pointer (some ⟨hb, 0, none⟩), .int .u64 (w : Nat), .agg #[.int .i64 5, .bool vw, .int .i64 0, .string ⟨#[]⟩, .slice ob bl bc, .slice ow wl wc, .int .u64 ba, .int .i64 fr, .int .i64 ln]] W fun e w' => ∃ Br Bw, e = .returned (.agg #[.func (.func 98) #[] #[.pointer (some ⟨Br, 0, none⟩)], .func (.func 99) #[] #[.pointer (some ⟨Bw, 0, none⟩)]]) ∧ Below W.heap.size W w' ∧ PairAt w' Br Bw hb w 8 := by
  have hB1 : Below W.heap.size W (W.alloc (.cells #[.int .i64 5, .bool vw, .int .i64 0, .string ⟨#[]⟩, .slice ob bl bc, .slice ow wl wc, .int .u64 ba, .int .i64 fr, .int .i64 ln] 39)) := (Below.refl _ W).alloc (Nat.le_refl _) _
  have hs1 : (W.alloc (.cells #[.int .i64 5, .bool vw, .int .i64 0, .string ⟨#[]⟩, .slice ob bl bc, .slice ow wl wc, .int .u64 ba, .int .i64 fr, .int .i64 ln] 39)).heap.size = W.heap.size + 1 := World.size_alloc ..
  have e1 := World.cell?_alloc_new W #[.int .i64 5, .bool vw, .int .i64 0, .string ⟨#[]⟩, .slice ob bl bc, .slice ow wl wc, .int .u64 ba, .int .i64 fr, .int .i64 ln] 39 0
  simp only [List.getElem?_toArray, List.getElem?_cons_zero] at e1
  generalize hW1 : W.alloc (.cells #[.int .i64 5, .bool vw, .int .i64 0, .string ⟨#[]⟩, .slice ob bl bc, .slice ow wl wc, .int .u64 ba, .int .i64 fr, .int .i64 ln] 39) = W1 at *
  have hB2 : Below W1.heap.size W1 (W1.alloc (.cells #[.nilFunc, .nilFunc] 78)) := (Below.refl _ W1).alloc (Nat.le_refl _) _
  have hs2 : (W1.alloc (.cells #[.nilFunc, .nilFunc] 78)).heap.size = W.heap.size + 2 := by rw [World.size_alloc, hs1]
  have f2 := World.alloc_heap_new W1 (.cells #[.nilFunc, .nilFunc] 78)
  have e2 := below_cell hB2 e1
  generalize hW2 : W1.alloc (.cells #[.nilFunc, .nilFunc] 78) = W2 at *
  have cr := doubles_c W2 hb w
  have kp : Hid (∀ w4, Below W2.heap.size W2 w4 → w4.heap[W1.heap.size]? = some (.cells #[.nilFunc, .nilFunc] 78) ∧ Below W.heap.size W w4) := by
    show ∀ w4, _
    intro w4 hB4
    have := hB2.size
    exact ⟨(hB4.block _ (by omega)).trans f2, (hB1.trans (hB2.mono hB1.size)).trans (hB4.mono (by have := hB1.size; omega))⟩
  have HS1 : Hid (W.heap.size ≤ W1.heap.size) := hid hB1.size
  clear hB1 hs1 e1 hB2 hs2 f2
  go_enter Tryz.func34, Tryz.ntmps34
  go_upto_region 1 with fail
  clear hW1 hW2
  go_wp2_with (go_at_call 66; (with_reducible refine cr.mono ?_); rintro e w4 ⟨Br, Bw, rfl, hB4, hP4⟩; clear cr; (obtain ⟨f4, hB5⟩ := kp.out w4 hB4); (have eR := fun j => cell_of_row w4 W1.heap.size j _ _ _ f4); (have zR := (fun j => by simp [World.frozen?, f4] : ∀ j, w4.frozen? ⟨W1.heap.size, j, none⟩ = false)); (have FR := hid f4); (have HB := hid hB5); (have HP := hid hP4); clear f4 hB5 hP4 hB4)
  refine bodyPost_ret (pair_ret rfl _ _ W1.heap.size _ _ (0, 0) rfl (two_set FR.out _ _)) rfl ?_
  refine ⟨Br, Bw, rfl, two_below HB.out HS1.out _ _, ?_⟩
  obtain ⟨Bh, Bx, Bd, hR, hr, hw⟩ := HP.out.ex
  have ne : ∀ {B t : Nat} {v : Value}, Boxed w4 B t v → B ≠ W1.heap.size := by
    intro B t v hb e
    subst e
    have := FR.out
    unfold Boxed at hb
    rw [hb] at this
    simp at this
  exact ⟨Bh, Bx, Bd, ⟨box_of (two_far _ _ _ _ _ (ne hR.h)) hR.h, box_of (two_far _ _ _ _ _ (ne hR.x)) hR.x, box_of (two_far _ _ _ _ _ (ne hR.d)) hR.d⟩, box_of (two_far _ _ _ _ _ (ne hr)) hr, box_of (two_far _ _ _ _ _ (ne hw)) hw⟩
set_option maxRecDepth 100000 in
theorem pairOf_narrows (W : World) (hb w : Nat) (vw : Bool) (ob ow : Option Addr) (bl bc wl wc : Nat) (ba fr ln : Int) : Calls Tryz.prog 34 #[.pointer (some ⟨hb, 0, none⟩), .int .u64 (w : Nat), .agg #[.int .i64 6, .bool vw, .int .i64 0, .string ⟨#[]⟩, .slice ob bl bc, .slice ow wl wc, .int .u64 ba, .int .i64 fr, .int .i64 ln]] W fun e w' => ∃ Br Bw, e = .returned (.agg #[.func (.func 101) #[] #[.pointer (some ⟨Br, 0, none⟩)], .func (.func 103) #[] #[.pointer (some ⟨Bw, 0, none⟩)]]) ∧ Below W.heap.size W w' ∧ PairAt w' Br Bw hb w 4 := by
  have hB1 : Below W.heap.size W (W.alloc (.cells #[.int .i64 6, .bool vw, .int .i64 0, .string ⟨#[]⟩, .slice ob bl bc, .slice ow wl wc, .int .u64 ba, .int .i64 fr, .int .i64 ln] 39)) := (Below.refl _ W).alloc (Nat.le_refl _) _
  have hs1 : (W.alloc (.cells #[.int .i64 6, .bool vw, .int .i64 0, .string ⟨#[]⟩, .slice ob bl bc, .slice ow wl wc, .int .u64 ba, .int .i64 fr, .int .i64 ln] 39)).heap.size = W.heap.size + 1 := World.size_alloc ..
  have e1 := World.cell?_alloc_new W #[.int .i64 6, .bool vw, .int .i64 0, .string ⟨#[]⟩, .slice ob bl bc, .slice ow wl wc, .int .u64 ba, .int .i64 fr, .int .i64 ln] 39 0
  simp only [List.getElem?_toArray, List.getElem?_cons_zero] at e1
  generalize hW1 : W.alloc (.cells #[.int .i64 6, .bool vw, .int .i64 0, .string ⟨#[]⟩, .slice ob bl bc, .slice ow wl wc, .int .u64 ba, .int .i64 fr, .int .i64 ln] 39) = W1 at *
  have hB2 : Below W1.heap.size W1 (W1.alloc (.cells #[.nilFunc, .nilFunc] 78)) := (Below.refl _ W1).alloc (Nat.le_refl _) _
  have hs2 : (W1.alloc (.cells #[.nilFunc, .nilFunc] 78)).heap.size = W.heap.size + 2 := by rw [World.size_alloc, hs1]
  have f2 := World.alloc_heap_new W1 (.cells #[.nilFunc, .nilFunc] 78)
  have e2 := below_cell hB2 e1
  generalize hW2 : W1.alloc (.cells #[.nilFunc, .nilFunc] 78) = W2 at *
  have cr := narrows_c W2 hb w
  have kp : Hid (∀ w4, Below W2.heap.size W2 w4 → w4.heap[W1.heap.size]? = some (.cells #[.nilFunc, .nilFunc] 78) ∧ Below W.heap.size W w4) := by
    show ∀ w4, _
    intro w4 hB4
    have := hB2.size
    exact ⟨(hB4.block _ (by omega)).trans f2, (hB1.trans (hB2.mono hB1.size)).trans (hB4.mono (by have := hB1.size; omega))⟩
  have HS1 : Hid (W.heap.size ≤ W1.heap.size) := hid hB1.size
  clear hB1 hs1 e1 hB2 hs2 f2
  go_enter Tryz.func34, Tryz.ntmps34
  go_upto_region 1 with fail
  clear hW1 hW2
  go_wp2_with (go_at_call 67; (with_reducible refine cr.mono ?_); rintro e w4 ⟨Br, Bw, rfl, hB4, hP4⟩; clear cr; (obtain ⟨f4, hB5⟩ := kp.out w4 hB4); (have eR := fun j => cell_of_row w4 W1.heap.size j _ _ _ f4); (have zR := (fun j => by simp [World.frozen?, f4] : ∀ j, w4.frozen? ⟨W1.heap.size, j, none⟩ = false)); (have FR := hid f4); (have HB := hid hB5); (have HP := hid hP4); clear f4 hB5 hP4 hB4)
  refine bodyPost_ret (pair_ret rfl _ _ W1.heap.size _ _ (0, 0) rfl (two_set FR.out _ _)) rfl ?_
  refine ⟨Br, Bw, rfl, two_below HB.out HS1.out _ _, ?_⟩
  obtain ⟨Bh, Bx, Bd, hR, hr, hw⟩ := HP.out.ex
  have ne : ∀ {B t : Nat} {v : Value}, Boxed w4 B t v → B ≠ W1.heap.size := by
    intro B t v hb e
    subst e
    have := FR.out
    unfold Boxed at hb
    rw [hb] at this
    simp at this
  exact ⟨Bh, Bx, Bd, ⟨box_of (two_far _ _ _ _ _ (ne hR.h)) hR.h, box_of (two_far _ _ _ _ _ (ne hR.x)) hR.x, box_of (two_far _ _ _ _ _ (ne hR.d)) hR.d⟩, box_of (two_far _ _ _ _ _ (ne hr)) hr, box_of (two_far _ _ _ _ _ (ne hw)) hw⟩
theorem doubles1_c {w : Nat} {k2 : Int} {t p n Br Bw : Nat} {bs : List Nat} (g : HLay W hb sb vc T H u h) (s : Spot H w 5 t p n k2 bs) (r : PairAt W Br Bw hb w 8) (i : Nat) (hi : i * 8 + 8 ≤ n) (ha : (p + i * 8) % 8 = 0) :
    Calls Tryz.prog 98 #[.int .i64 i, .pointer (some ⟨Br, 0, none⟩)] W fun e w' => e = .returned (.int .u64 (fltW ((leN (seg bs (p + i * 8) 8) : Nat) : Int))) ∧ Below W.heap.size W w' := by
  obtain ⟨Bh, Bx, Bd, hR, hr, hw⟩ := r.ex
  have cr := raw1_c g s hR (.inr (.inr (.inr rfl))) i hi ha
  have hok := g.ok t _ s.cell
  have hN : leN (seg bs (p + i * 8) 8) < 18446744073709551616 := by
    have h1 := leN_lt (seg bs (p + i * 8) 8) (fun x hx => hok.2.1 x (List.mem_of_mem_drop (List.mem_of_mem_take hx)))
    have h2 : (seg bs (p + i * 8) 8).length ≤ 8 := by unfold seg; rw [List.length_take]; omega
    have h3 : 256 ^ (seg bs (p + i * 8) 8).length ≤ 256 ^ 8 := Nat.pow_le_pow_right (by omega) h2
    omega
  have cs := fun w => fromFloat_c ((leN (seg bs (p + i * 8) 8) : Nat) : Int) (by omega) (by omega) w
  have x1 := hr.cell
  generalize leN (seg bs (p + i * 8) 8) = X at *
  generalize fltW (X : Int) = IW at *
  clear g s r hR hr hw hok hi ha hN
  go_enter Tryz.func98, Tryz.ntmps98
  go_wp2_with (first | (go_at_call 128; (with_reducible refine cr.mono ?_); rintro e w2 ⟨rfl, hB2⟩; clear cr) | (go_at_call 39; (with_reducible refine (cs _).mono ?_); rintro e w' ⟨rfl, hw⟩; (have hw' := hw.symm); subst hw'; clear hw))
  go_ret
  exact ⟨rfl, hB2⟩
theorem narrows1_c {w : Nat} {k2 : Int} {t p n Br Bw : Nat} {bs : List Nat} (g : HLay W hb sb vc T H u h) (s : Spot H w 6 t p n k2 bs) (r : PairAt W Br Bw hb w 4) (i : Nat) (hi : i * 4 + 4 ≤ n) (ha : (p + i * 4) % 4 = 0) (y : Int) (hwi : ∀ w, Calls Tryz.prog 102 #[.int .u32 ((leN (seg bs (p + i * 4) 4) : Nat) : Int)] w fun e w' => e = .returned (.int .u64 y) ∧ Below w.heap.size w w') :
    Calls Tryz.prog 101 #[.int .i64 i, .pointer (some ⟨Br, 0, none⟩)] W fun e w' => e = .returned (.int .u64 y) ∧ Below W.heap.size W w' := by
  obtain ⟨Bh, Bx, Bd, hR, hr, hw⟩ := r.ex
  have cr := raw1_c g s hR (.inr (.inr (.inl rfl))) i hi ha
  have hok := g.ok t _ s.cell
  have hN : leN (seg bs (p + i * 4) 4) < 4294967296 := by
    have h1 := leN_lt (seg bs (p + i * 4) 4) (fun x hx => hok.2.1 x (List.mem_of_mem_drop (List.mem_of_mem_take hx)))
    have h2 : (seg bs (p + i * 4) 4).length ≤ 4 := by unfold seg; rw [List.length_take]; omega
    have h3 : 256 ^ (seg bs (p + i * 4) 4).length ≤ 256 ^ 4 := Nat.pow_le_pow_right (by omega) h2
    omega
  have hcv : IntKind.u32.wrap ((leN (seg bs (p + i * 4) 4) : Nat) : Int) = ((leN (seg bs (p + i * 4) 4) : Nat) : Int) := by
    have e : ∀ z : Int, 0 ≤ z → z < 4294967296 → IntKind.u32.wrap z = z := by
      intro z h0 h1
      unfold IntKind.wrap
      simp [IntKind.bits, IntKind.signed]
      omega
    exact e _ (by omega) (by omega)
  have x1 := hr.cell
  generalize leN (seg bs (p + i * 4) 4) = X at *
  clear g s r hR hr hw hok hi ha hN
  go_enter Tryz.func101, Tryz.ntmps101
  go_wp2_with (first | (go_at_call 128; (with_reducible refine cr.mono ?_); rintro e w2 ⟨rfl, hB2⟩; clear cr) | (go_at_call 102; (with_reducible refine (hwi _).mono ?_); rintro e w3 ⟨rfl, hB3⟩; clear hwi))
  go_ret
  exact ⟨rfl, hB2.trans (hB3.mono hB2.size)⟩
set_option maxRecDepth 100000 in
theorem load_doubles {w : Nat} {k2 : Int} {t p n : Nat} {bs : List Nat} (g : HLay W hb sb vc T H u h) (s : Spot H w 5 t p n k2 bs) (i : Nat) (hi : i * 8 + 8 ≤ n) (ha : p % 8 = 0) :
    Calls Tryz.prog 16 #[.pointer (some ⟨hb, 0, none⟩), .int .u64 w, .int .i64 i] W fun e w' => e = .returned (.tuple #[.int .u64 (fltW ((leN (seg bs (p + i * 8) 8) : Nat) : Int)), .int .i64 0]) ∧ Below W.heap.size W w' := by
  obtain ⟨id, c, hit0, hc, hth, hk0, hcn⟩ := spot_thing s (by decide)
  have hcnt : i < c.cnt := by rw [hcn]; show i < n / 8; omega
  have ce := elem_c g w s.w64 id hit0 c hc hth i (by omega) (by omega)
  unfold ThPost at ce
  rw [hk0] at ce
  have hv : ∀ w4 Br Bw, Below W.heap.size W w4 → PairAt w4 Br Bw hb w 8 → Calls Tryz.prog 98 #[.int .i64 i, .pointer (some ⟨Br, 0, none⟩)] w4 fun e w' => e = .returned (.int .u64 (fltW ((leN (seg bs (p + i * 8) 8) : Nat) : Int))) ∧ Below w4.heap.size w4 w' := fun w4 Br Bw hB hP => doubles1_c (g.below hB) s hP i hi (by omega)
  have hl8 : bs.length ≤ 8388608 := (g.ok t _ s.cell).2.2
  have hiw : IntKind.i64.wrap (i : Int) = i := by have := s.fit; rw [IntKind.wrap_i64]; omega
  have HV := hid hv
  generalize fltW ((leN (seg bs (p + i * 8) 8) : Nat) : Int) = X at *
  generalize c.cl.view = vw at *
  generalize c.bl = bl at *
  generalize c.wl = wl at *
  generalize c.cl.base = ba at *
  generalize c.cl.frm = fr at *
  generalize c.cl.len = ln at *
  clear g s hi ha hv hc hth hk0 hcn hcnt hit0 hl8
  go_enter Tryz.func16, Tryz.ntmps16
  go_upto_region 2 with (go_at_call 32; (with_reducible refine ce.mono ?_); rintro e w2 ⟨ob, bc, ow, wc, rfl, hB2, ho⟩; clear ce ho)
  have hB3 : Below w2.heap.size w2 (w2.alloc (.cells #[.int .i64 5, .bool vw, .int .i64 0, .string ⟨#[]⟩, .slice ob bl bc, .slice ow wl wc, .int .u64 ba, .int .i64 fr, .int .i64 ln] 39)) := (Below.refl _ w2).alloc (Nat.le_refl _) _
  have e3 := World.cell?_alloc_new w2 #[.int .i64 5, .bool vw, .int .i64 0, .string ⟨#[]⟩, .slice ob bl bc, .slice ow wl wc, .int .u64 ba, .int .i64 fr, .int .i64 ln] 39
  have hbel := hB2.trans (hB3.mono hB2.size)
  generalize w2.alloc (.cells #[.int .i64 5, .bool vw, .int .i64 0, .string ⟨#[]⟩, .slice ob bl bc, .slice ow wl wc, .int .u64 ba, .int .i64 fr, .int .i64 ln] 39) = w3 at *
  have cp := pairOf_doubles w3 hb w vw ob ow bl bc wl wc ba fr ln
  have HBel := hid hbel
  have pf := fun f g cs ds w => pair_f0 f g cs ds w
  clear hB2 hB3 hbel
  go_wp2_with (first | (go_at_call 34; (with_reducible refine cp.mono ?_); rintro e w4 ⟨Br, Bw, rfl, hB4, hP4⟩; clear cp; (have cv := HV.out w4 Br Bw (HBel.out.trans (hB4.mono HBel.out.size)) hP4)) | (go_at_call 98; (with_reducible refine cv.mono ?_); rintro e w5 ⟨rfl, hB5⟩; clear cv))
  go_ret2
  exact ⟨rfl, (HBel.out.trans (hB4.mono HBel.out.size)).trans (hB5.mono (by have := HBel.out.size; have := hB4.size; omega))⟩
set_option maxRecDepth 100000 in
theorem load_narrows {w : Nat} {k2 : Int} {t p n : Nat} {bs : List Nat} (g : HLay W hb sb vc T H u h) (s : Spot H w 6 t p n k2 bs) (i : Nat) (hi : i * 4 + 4 ≤ n) (ha : p % 4 = 0) (y : Int) (hwi : ∀ w, Calls Tryz.prog 102 #[.int .u32 ((leN (seg bs (p + i * 4) 4) : Nat) : Int)] w fun e w' => e = .returned (.int .u64 y) ∧ Below w.heap.size w w') :
    Calls Tryz.prog 16 #[.pointer (some ⟨hb, 0, none⟩), .int .u64 w, .int .i64 i] W fun e w' => e = .returned (.tuple #[.int .u64 y, .int .i64 0]) ∧ Below W.heap.size W w' := by
  obtain ⟨id, c, hit0, hc, hth, hk0, hcn⟩ := spot_thing s (by decide)
  have hcnt : i < c.cnt := by rw [hcn]; show i < n / 4; omega
  have ce := elem_c g w s.w64 id hit0 c hc hth i (by omega) (by omega)
  unfold ThPost at ce
  rw [hk0] at ce
  have hv : ∀ w4 Br Bw, Below W.heap.size W w4 → PairAt w4 Br Bw hb w 4 → Calls Tryz.prog 101 #[.int .i64 i, .pointer (some ⟨Br, 0, none⟩)] w4 fun e w' => e = .returned (.int .u64 y) ∧ Below w4.heap.size w4 w' := fun w4 Br Bw hB hP => narrows1_c (g.below hB) s hP i hi (by omega) y hwi
  have hl8 : bs.length ≤ 8388608 := (g.ok t _ s.cell).2.2
  have hiw : IntKind.i64.wrap (i : Int) = i := by have := s.fit; rw [IntKind.wrap_i64]; omega
  have HV := hid hv
  clear hwi
  generalize c.cl.view = vw at *
  generalize c.bl = bl at *
  generalize c.wl = wl at *
  generalize c.cl.base = ba at *
  generalize c.cl.frm = fr at *
  generalize c.cl.len = ln at *
  clear g s hi ha hv hc hth hk0 hcn hcnt hit0 hl8
  go_enter Tryz.func16, Tryz.ntmps16
  go_upto_region 2 with (go_at_call 32; (with_reducible refine ce.mono ?_); rintro e w2 ⟨ob, bc, ow, wc, rfl, hB2, ho⟩; clear ce ho)
  have hB3 : Below w2.heap.size w2 (w2.alloc (.cells #[.int .i64 6, .bool vw, .int .i64 0, .string ⟨#[]⟩, .slice ob bl bc, .slice ow wl wc, .int .u64 ba, .int .i64 fr, .int .i64 ln] 39)) := (Below.refl _ w2).alloc (Nat.le_refl _) _
  have e3 := World.cell?_alloc_new w2 #[.int .i64 6, .bool vw, .int .i64 0, .string ⟨#[]⟩, .slice ob bl bc, .slice ow wl wc, .int .u64 ba, .int .i64 fr, .int .i64 ln] 39
  have hbel := hB2.trans (hB3.mono hB2.size)
  generalize w2.alloc (.cells #[.int .i64 6, .bool vw, .int .i64 0, .string ⟨#[]⟩, .slice ob bl bc, .slice ow wl wc, .int .u64 ba, .int .i64 fr, .int .i64 ln] 39) = w3 at *
  have cp := pairOf_narrows w3 hb w vw ob ow bl bc wl wc ba fr ln
  have HBel := hid hbel
  have pf := fun f g cs ds w => pair_f0 f g cs ds w
  clear hB2 hB3 hbel
  go_wp2_with (first | (go_at_call 34; (with_reducible refine cp.mono ?_); rintro e w4 ⟨Br, Bw, rfl, hB4, hP4⟩; clear cp; (have cv := HV.out w4 Br Bw (HBel.out.trans (hB4.mono HBel.out.size)) hP4)) | (go_at_call 101; (with_reducible refine cv.mono ?_); rintro e w5 ⟨rfl, hB5⟩; clear cv))
  go_ret2
  exact ⟨rfl, (HBel.out.trans (hB4.mono HBel.out.size)).trans (hB5.mono (by have := HBel.out.size; have := hB4.size; omega))⟩
end
end Go.Proofs.YthgmcfhknaioeaaGreat.W
