import Derived.Test.YtenpopelbmeemaaGreatBase29
/- Package buf: pairOf; Load and Store, of octets and shorts. -/
namespace Go.Proofs.YtenpopelbmeemaaGreat.W
open Go.ChangeShapes Go.WideShapes Go.RowKit Go.Shelf
set_option linter.unusedVariables false
theorem small_c (i : Int) (h : smallB i = true) (W : World) : Calls Tryz.prog 105 #[.int .i64 i] W fun e w' => e = .returned (.int .u64 (intW i)) ∧ w' = W := by
  have hb : -140737488355328 ≤ i ∧ i ≤ 140737488355327 := by simpa [smallB] using h
  have cf := fromInt_c i (by omega) (by omega) W
  go_enter Tryz.func105, Tryz.ntmps105
  go_wp2_with (go_at_call 53; (with_reducible refine cf.mono ?_); rintro e w' ⟨rfl, hw⟩; (have hw' := hw.symm); subst hw'; clear hw)
  go_ret
  exact ⟨rfl, rfl⟩
/-- a whole number of sixteen bits -/
def sg16 (n : Nat) : Int := ((n : Int) + 32768) % 65536 - 32768
theorem wrap_16 (n : Nat) : IntKind.i16.wrap (n : Int) = sg16 n := by
  have e : IntKind.i16.wrap (n : Int) = if (n : Int) % 65536 ≥ 32768 then (n : Int) % 65536 - 65536 else (n : Int) % 65536 := by
    unfold IntKind.wrap
    simp [IntKind.bits, IntKind.signed]
  rw [e]
  unfold sg16
  split <;> omega
/-- the word of an element of whole numbers -/
def elI (k : Int) (n : Nat) : Int := if k = 7 then intW (sg16 n) else intW n
theorem within_c (j lo hi : Int) (W : World) : Calls Tryz.prog 107 #[.agg #[.int .i64 2, .int .i64 j, .int .u64 0, .string ⟨#[]⟩, .int .u64 0], .int .i64 lo, .int .i64 hi] W fun e w' => e = .returned (if lo ≤ j ∧ j ≤ hi then .tuple #[.int .i64 j, .int .i64 0] else .tuple #[.int .i64 0, .int .i64 13]) ∧ Below W.heap.size W w' := by
  have hB : Below W.heap.size W (W.alloc (.cells #[.int .i64 2, .int .i64 j, .int .u64 0, .string ⟨#[]⟩, .int .u64 0] 33)) := (Below.refl _ W).alloc (Nat.le_refl _) _
  have e1 := World.cell?_alloc_new W #[.int .i64 2, .int .i64 j, .int .u64 0, .string ⟨#[]⟩, .int .u64 0] 33
  by_cases a : j < lo
  · rw [if_neg (by omega)]
    go_enter Tryz.func107, Tryz.ntmps107
    go_wp2
    go_ret2
    exact ⟨rfl, hB⟩
  · by_cases b : j > hi
    · rw [if_neg (by omega)]
      go_enter Tryz.func107, Tryz.ntmps107
      go_wp2
      go_ret2
      exact ⟨rfl, hB⟩
    · rw [if_pos (by omega)]
      go_enter Tryz.func107, Tryz.ntmps107
      go_wp2
      go_ret2
      exact ⟨rfl, hB⟩
theorem within_not (kd : Int) (hk : ¬ kd = 2) (i bi : Int) (t : ByteArray) (re lo hi : Int) (W : World) : Calls Tryz.prog 107 #[.agg #[.int .i64 kd, .int .i64 i, .int .u64 bi, .string t, .int .u64 re], .int .i64 lo, .int .i64 hi] W fun e w' => e = .returned (.tuple #[.int .i64 0, .int .i64 51]) ∧ Below W.heap.size W w' := by
  have hB : Below W.heap.size W (W.alloc (.cells #[.int .i64 kd, .int .i64 i, .int .u64 bi, .string t, .int .u64 re] 33)) := (Below.refl _ W).alloc (Nat.le_refl _) _
  have e1 := World.cell?_alloc_new W #[.int .i64 kd, .int .i64 i, .int .u64 bi, .string t, .int .u64 re] 33
  go_enter Tryz.func107, Tryz.ntmps107
  go_wp2
  go_ret2
  exact ⟨rfl, hB⟩
theorem spot_thing {H : List (Option Hc)} {w : Nat} {k k2 : Int} {t p n : Nat} {bs : List Nat} (s : Spot H w k t p n k2 bs) (hk : elB k > 0) : ∃ id c, hit H w = some id ∧ H[id]? = some (some c) ∧ isTh c ∧ c.cl.kind = k ∧ c.cnt = n / elB k := by
  obtain ⟨id, hi, ⟨hc, rfl, rfl, rfl, rfl⟩ | ⟨ba, c, hc, hb2, rfl⟩⟩ := s.road
  · exact ⟨t, _, hi, hc, trivial, rfl, rfl⟩
  · refine ⟨id, _, hi, hc, trivial, rfl, ?_⟩
    show c = c * elB k / elB k
    rw [Nat.mul_div_cancel _ hk]
theorem pair_f0 (f g : Fn) (cs ds : Array Value) (w : World) : (Instr.field 77 (.agg #[.func f #[] cs, .func g #[] ds]) 0).run Tryz.prog w = .ok (.func f #[] cs) w := by kernel_rfl
theorem pair_f1 (f g : Fn) (cs ds : Array Value) (w : World) : (Instr.field 77 (.agg #[.func f #[] cs, .func g #[] ds]) 1).run Tryz.prog w = .ok (.func g #[] ds) w := by kernel_rfl
section
variable {W W' : World} {hb sb : Nat} {vc : Value} {T : Nat → Prop} {H : List (Option Hc)} {u h : Nat}
set_option maxRecDepth 100000 in
theorem pairOf_octets (W : World) (hb w : Nat) : Calls Tryz.prog 34 #[.pointer (some ⟨hb, 0, none⟩), .int .u64 (w : Nat), .int .i64 8] W fun e w' => ∃ Br Bw, e = .returned (.agg #[.func (.func 108) #[] #[.pointer (some ⟨Br, 0, none⟩)], .func (.func 109) #[] #[.pointer (some ⟨Bw, 0, none⟩)]]) ∧ Below W.heap.size W w' ∧ PairAt w' Br Bw hb w 1 := by
  have hB2 : Below W.heap.size W (W.alloc (.cells #[.nilFunc, .nilFunc] 77)) := (Below.refl _ W).alloc (Nat.le_refl _) _
  have f2 := World.alloc_heap_new W (.cells #[.nilFunc, .nilFunc] 77)
  generalize hW2 : W.alloc (.cells #[.nilFunc, .nilFunc] 77) = W2 at *
  have cr := octets_c W2 hb w
  have kp : Hid (∀ w4, Below W2.heap.size W2 w4 → w4.heap[W.heap.size]? = some (.cells #[.nilFunc, .nilFunc] 77) ∧ Below W.heap.size W w4) := by
    show ∀ w4, _
    intro w4 hB4
    exact ⟨(hB4.block _ (lt_get f2)).trans f2, hB2.trans (hB4.mono hB2.size)⟩
  clear hB2 f2
  go_enter Tryz.func34, Tryz.ntmps34
  go_upto_region 1 with fail
  clear hW2
  go_wp2_with (go_at_call 65; (with_reducible refine cr.mono ?_); rintro e w4 ⟨Br, Bw, rfl, hB4, hP4⟩; clear cr; (obtain ⟨f4, hB5⟩ := kp.out w4 hB4); (have eR := fun j => cell_of_row w4 W.heap.size j _ _ _ f4); (have zR := (fun j => by simp [World.frozen?, f4] : ∀ j, w4.frozen? ⟨W.heap.size, j, none⟩ = false)); (have FR := hid f4); (have HB := hid hB5); (have HP := hid hP4); clear f4 hB5 hP4 hB4)
  refine bodyPost_ret (pair_ret rfl _ _ W.heap.size _ _ (0, 0) rfl (two_set FR.out _ _)) rfl ?_
  refine ⟨Br, Bw, rfl, two_below HB.out (Nat.le_refl _) _ _, ?_⟩
  obtain ⟨Bh, Bx, Bd, hR, hr, hw⟩ := HP.out.ex
  have ne : ∀ {B t : Nat} {v : Value}, Boxed w4 B t v → B ≠ W.heap.size := by
    intro B t v hb e
    subst e
    have := FR.out
    unfold Boxed at hb
    rw [hb] at this
    simp at this
  exact ⟨Bh, Bx, Bd, ⟨box_of (two_far _ _ _ _ _ (ne hR.h)) hR.h, box_of (two_far _ _ _ _ _ (ne hR.x)) hR.x, box_of (two_far _ _ _ _ _ (ne hR.d)) hR.d⟩, box_of (two_far _ _ _ _ _ (ne hr)) hr, box_of (two_far _ _ _ _ _ (ne hw)) hw⟩
theorem octets1_c {w : Nat} {k2 : Int} {t p n Br Bw : Nat} {bs : List Nat} (g : HLay W hb sb vc T H u h) (s : Spot H w 8 t p n k2 bs) (r : PairAt W Br Bw hb w 1) (i : Nat) (hi : i * 1 + 1 ≤ n) (ha : (p + i * 1) % 1 = 0) :
    Calls Tryz.prog 108 #[.int .i64 i, .pointer (some ⟨Br, 0, none⟩)] W fun e w' => e = .returned (.int .u64 (elI 8 (leN (seg bs (p + i * 1) 1)))) ∧ Below W.heap.size W w' := by
  obtain ⟨Bh, Bx, Bd, hR, hr, hw⟩ := r.ex
  have cr := raw1_c g s hR (.inl rfl) i hi ha
  have hok := g.ok t _ s.cell
  have hN : leN (seg bs (p + i * 1) 1) < 256 := by
    have h1 := leN_lt (seg bs (p + i * 1) 1) (fun x hx => hok.2.1 x (List.mem_of_mem_drop (List.mem_of_mem_take hx)))
    have h2 : (seg bs (p + i * 1) 1).length ≤ 1 := by unfold seg; rw [List.length_take]; omega
    have h3 : 256 ^ (seg bs (p + i * 1) 1).length ≤ 256 ^ 1 := Nat.pow_le_pow_right (by omega) h2
    omega
  have hcv : IntKind.i64.wrap ((leN (seg bs (p + i * 1) 1) : Nat) : Int) = ((leN (seg bs (p + i * 1) 1) : Nat) : Int) := by rw [IntKind.wrap_i64]; omega
  have cs := fun w => small_c ((leN (seg bs (p + i * 1) 1) : Nat) : Int) (by unfold smallB; rw [decide_eq_true_eq]; omega) w
  have eI : elI 8 (leN (seg bs (p + i * 1) 1)) = intW ((leN (seg bs (p + i * 1) 1) : Nat) : Int) := by unfold elI; rw [if_neg (by decide)]
  rw [eI]
  have x1 := hr.cell
  generalize leN (seg bs (p + i * 1) 1) = X at *
  generalize intW (X : Int) = IW at *
  clear g s r hR hr hw hok hi ha hN eI
  go_enter Tryz.func108, Tryz.ntmps108
  go_wp2_with (first | (go_at_call 131; (with_reducible refine cr.mono ?_); rintro e w2 ⟨rfl, hB2⟩; clear cr) | (go_at_call 105; (with_reducible refine (cs _).mono ?_); rintro e w' ⟨rfl, hw⟩; (have hw' := hw.symm); subst hw'; clear hw))
  go_ret
  exact ⟨rfl, hB2⟩
theorem octets2_c {w : Nat} {k2 : Int} {t p n Br Bw : Nat} {bs : List Nat} (g : HLay W hb sb vc T H u h) (s : Spot H w 8 t p n k2 bs) (r : PairAt W Br Bw hb w 1) (i : Nat) (hi : i * 1 + 1 ≤ n) (ha : (p + i * 1) % 1 = 0) (xw : Int) (j : Int) (hj : 0 ≤ j ∧ j ≤ 255) :
    Calls Tryz.prog 109 #[.int .i64 i, .int .u64 xw, .agg #[.int .i64 2, .int .i64 j, .int .u64 0, .string ⟨#[]⟩, .int .u64 0], .pointer (some ⟨Bw, 0, none⟩)] W fun e w' => e = .returned (.int .i64 0) ∧ Upd T W w' ∧ HLay w' hb sb vc T (H.set t (some (.buf k2 (saved bs (p + i * 1) (j % 18446744073709551616).toNat 1)))) u h := by
  have hB1 : Below W.heap.size W (W.alloc (.cells #[.int .i64 2, .int .i64 j, .int .u64 0, .string ⟨#[]⟩, .int .u64 0] 33)) := (Below.refl _ W).alloc (Nat.le_refl _) _
  have e1 := World.cell?_alloc_new W #[.int .i64 2, .int .i64 j, .int .u64 0, .string ⟨#[]⟩, .int .u64 0] 33
  have ci := fun W => within_c j (0) 255 W
  rw [if_pos hj] at ci
  have hwu : IntKind.u64.wrap j = (((j % 18446744073709551616).toNat : Nat) : Int) := by rw [IntKind.wrap_u64]; omega
  have hx64 : (j % 18446744073709551616).toNat < 18446744073709551616 := by omega
  have hv : ∀ w2, Below W.heap.size W w2 → (∃ Bh Bx Bd, w2.cell? ⟨Bw, 0, none⟩ = some (.func (.func 133) #[] #[.pointer (some ⟨Bh, 0, none⟩), .pointer (some ⟨Bx, 0, none⟩), .pointer (some ⟨Bd, 0, none⟩)]) ∧ Calls Tryz.prog 133 #[.int .i64 i, .int .u64 (((j % 18446744073709551616).toNat : Nat) : Int), .pointer (some ⟨Bh, 0, none⟩), .pointer (some ⟨Bx, 0, none⟩), .pointer (some ⟨Bd, 0, none⟩)] w2 fun e w' => e = .returned (.int .i64 0) ∧ Hid (Upd T W w' ∧ HLay w' hb sb vc T (H.set t (some (.buf k2 (saved bs (p + i * 1) (j % 18446744073709551616).toNat 1)))) u h)) := by
    intro w2 hB2
    obtain ⟨Bh, Bx, Bd, hR, hr, hw⟩ := (r.below hB2).ex
    refine ⟨Bh, Bx, Bd, hw.cell, (raw2_c (g.below hB2) s hR (.inl rfl) i hi ha _ hx64).mono ?_⟩
    rintro e w' ⟨rfl, hU, hL⟩
    exact ⟨rfl, (Upd.of_below hB2).trans' hU, hL⟩
  generalize (H.set t (some (.buf k2 (saved bs (p + i * 1) (j % 18446744073709551616).toNat 1)))) = HH at *
  generalize (((j % 18446744073709551616).toNat : Nat) : Int) = XX at *
  have HV := hid hv
  have HB1 := hid hB1
  clear g s r hi ha hx64 hv hB1
  go_enter Tryz.func109, Tryz.ntmps109
  go_upto_region 4 with (go_at_call 107; (with_reducible refine (ci _).mono ?_); rintro e w2 ⟨rfl, hB2⟩; clear ci)
  obtain ⟨Bh, Bx, Bd, x1, cv⟩ := HV.out w2 (HB1.out.trans (hB2.mono HB1.out.size))
  go_wp2_with (go_at_call 133; (with_reducible refine cv.mono ?_); rintro e w3 ⟨rfl, hf⟩; clear cv)
  go_ret
  exact ⟨rfl, hf.out.1, hf.out.2⟩
theorem octets2_range {Br Bw : Nat} (i xw j : Int) (hj : ¬ (0 ≤ j ∧ j ≤ 255)) (W : World) :
    Calls Tryz.prog 109 #[.int .i64 i, .int .u64 xw, .agg #[.int .i64 2, .int .i64 j, .int .u64 0, .string ⟨#[]⟩, .int .u64 0], .pointer (some ⟨Bw, 0, none⟩)] W fun e w' => e = .returned (.int .i64 13) ∧ Below W.heap.size W w' := by
  have hB1 : Below W.heap.size W (W.alloc (.cells #[.int .i64 2, .int .i64 j, .int .u64 0, .string ⟨#[]⟩, .int .u64 0] 33)) := (Below.refl _ W).alloc (Nat.le_refl _) _
  have e1 := World.cell?_alloc_new W #[.int .i64 2, .int .i64 j, .int .u64 0, .string ⟨#[]⟩, .int .u64 0] 33
  have ci := fun W => within_c j (0) 255 W
  rw [if_neg hj] at ci
  go_enter Tryz.func109, Tryz.ntmps109
  go_wp2_with (go_at_call 107; (with_reducible refine (ci _).mono ?_); rintro e w2 ⟨rfl, hB2⟩; clear ci)
  go_ret
  exact ⟨rfl, hB1.trans (hB2.mono hB1.size)⟩
set_option maxRecDepth 100000 in
theorem load_octets {w : Nat} {k2 : Int} {t p n : Nat} {bs : List Nat} (g : HLay W hb sb vc T H u h) (s : Spot H w 8 t p n k2 bs) (i : Nat) (hi : i * 1 + 1 ≤ n) (ha : p % 1 = 0) :
    Calls Tryz.prog 11 #[.pointer (some ⟨hb, 0, none⟩), .int .u64 w, .int .i64 i] W fun e w' => e = .returned (.tuple #[.int .u64 (elI 8 (leN (seg bs (p + i * 1) 1))), .int .i64 0]) ∧ Below W.heap.size W w' := by
  obtain ⟨id, c, hit0, hc, hth, hk0, hcn⟩ := spot_thing s (by decide)
  have hcnt : i < c.cnt := by rw [hcn]; show i < n / 1; omega
  have ce := elem_c g w s.w64 id hit0 c hc hth i (by omega) (by omega)
  unfold ThPost at ce
  rw [hk0] at ce
  have hv : ∀ w4 Br Bw, Below W.heap.size W w4 → PairAt w4 Br Bw hb w 1 → Calls Tryz.prog 108 #[.int .i64 i, .pointer (some ⟨Br, 0, none⟩)] w4 fun e w' => e = .returned (.int .u64 (elI 8 (leN (seg bs (p + i * 1) 1)))) ∧ Below w4.heap.size w4 w' := fun w4 Br Bw hB hP => octets1_c (g.below hB) s hP i hi (by omega)
  have hl8 : bs.length ≤ 8388608 := (g.ok t _ s.cell).2.2
  have hiw : IntKind.i64.wrap (i : Int) = i := by have := s.fit; rw [IntKind.wrap_i64]; omega
  have HV := hid hv
  generalize elI 8 (leN (seg bs (p + i * 1) 1)) = X at *
  generalize c.cl.view = vw at *
  generalize ((c.bytes.length : Nat) : Int) = nb at *
  generalize c.cl.base = ba at *
  generalize c.cl.frm = fr at *
  generalize c.cl.len = ln at *
  clear g s hi ha hv hc hth hk0 hcn hcnt hit0 hl8
  go_enter Tryz.func11, Tryz.ntmps11
  go_upto_region 2 with (go_at_call 32; (with_reducible refine ce.mono ?_); rintro e w2 ⟨rfl, hB2⟩; clear ce)
  have hB3 : Below w2.heap.size w2 (w2.alloc (.cells #[.int .i64 8, .bool vw, .int .i64 0, .string ⟨#[]⟩, .slice none 0 0, .slice none 0 0, .int .u64 ba, .int .i64 fr, .int .i64 ln, .int .i64 nb] 69)) := (Below.refl _ w2).alloc (Nat.le_refl _) _
  have e3 := World.cell?_alloc_new w2 #[.int .i64 8, .bool vw, .int .i64 0, .string ⟨#[]⟩, .slice none 0 0, .slice none 0 0, .int .u64 ba, .int .i64 fr, .int .i64 ln, .int .i64 nb] 69
  have hbel := hB2.trans (hB3.mono hB2.size)
  generalize w2.alloc (.cells #[.int .i64 8, .bool vw, .int .i64 0, .string ⟨#[]⟩, .slice none 0 0, .slice none 0 0, .int .u64 ba, .int .i64 fr, .int .i64 ln, .int .i64 nb] 69) = w3 at *
  have cp := pairOf_octets w3 hb w
  have HBel := hid hbel
  have pf := fun f g cs ds w => pair_f0 f g cs ds w
  clear hB2 hB3 hbel
  go_wp2_with (first | (go_at_call 34; (with_reducible refine cp.mono ?_); rintro e w4 ⟨Br, Bw, rfl, hB4, hP4⟩; clear cp; (have cv := HV.out w4 Br Bw (HBel.out.trans (hB4.mono HBel.out.size)) hP4)) | (go_at_call 108; (with_reducible refine cv.mono ?_); rintro e w5 ⟨rfl, hB5⟩; clear cv))
  go_ret2
  exact ⟨rfl, (HBel.out.trans (hB4.mono HBel.out.size)).trans (hB5.mono (by have := HBel.out.size; have := hB4.size; omega))⟩
set_option maxRecDepth 100000 in
theorem pairOf_shorts (W : World) (hb w : Nat) : Calls Tryz.prog 34 #[.pointer (some ⟨hb, 0, none⟩), .int .u64 (w : Nat), .int .i64 7] W fun e w' => ∃ Br Bw, e = .returned (.agg #[.func (.func 104) #[] #[.pointer (some ⟨Br, 0, none⟩)], .func (.func 106) #[] #[.pointer (some ⟨Bw, 0, none⟩)]]) ∧ Below W.heap.size W w' ∧ PairAt w' Br Bw hb w 2 := by
  have hB2 : Below W.heap.size W (W.alloc (.cells #[.nilFunc, .nilFunc] 77)) := (Below.refl _ W).alloc (Nat.le_refl _) _
  have f2 := World.alloc_heap_new W (.cells #[.nilFunc, .nilFunc] 77)
  generalize hW2 : W.alloc (.cells #[.nilFunc, .nilFunc] 77) = W2 at *
  have cr := shorts_c W2 hb w
  have kp : Hid (∀ w4, Below W2.heap.size W2 w4 → w4.heap[W.heap.size]? = some (.cells #[.nilFunc, .nilFunc] 77) ∧ Below W.heap.size W w4) := by
    show ∀ w4, _
    intro w4 hB4
    exact ⟨(hB4.block _ (lt_get f2)).trans f2, hB2.trans (hB4.mono hB2.size)⟩
  clear hB2 f2
  go_enter Tryz.func34, Tryz.ntmps34
  go_upto_region 1 with fail
  clear hW2
  go_wp2_with (go_at_call 64; (with_reducible refine cr.mono ?_); rintro e w4 ⟨Br, Bw, rfl, hB4, hP4⟩; clear cr; (obtain ⟨f4, hB5⟩ := kp.out w4 hB4); (have eR := fun j => cell_of_row w4 W.heap.size j _ _ _ f4); (have zR := (fun j => by simp [World.frozen?, f4] : ∀ j, w4.frozen? ⟨W.heap.size, j, none⟩ = false)); (have FR := hid f4); (have HB := hid hB5); (have HP := hid hP4); clear f4 hB5 hP4 hB4)
  refine bodyPost_ret (pair_ret rfl _ _ W.heap.size _ _ (0, 0) rfl (two_set FR.out _ _)) rfl ?_
  refine ⟨Br, Bw, rfl, two_below HB.out (Nat.le_refl _) _ _, ?_⟩
  obtain ⟨Bh, Bx, Bd, hR, hr, hw⟩ := HP.out.ex
  have ne : ∀ {B t : Nat} {v : Value}, Boxed w4 B t v → B ≠ W.heap.size := by
    intro B t v hb e
    subst e
    have := FR.out
    unfold Boxed at hb
    rw [hb] at this
    simp at this
  exact ⟨Bh, Bx, Bd, ⟨box_of (two_far _ _ _ _ _ (ne hR.h)) hR.h, box_of (two_far _ _ _ _ _ (ne hR.x)) hR.x, box_of (two_far _ _ _ _ _ (ne hR.d)) hR.d⟩, box_of (two_far _ _ _ _ _ (ne hr)) hr, box_of (two_far _ _ _ _ _ (ne hw)) hw⟩
theorem shorts1_c {w : Nat} {k2 : Int} {t p n Br Bw : Nat} {bs : List Nat} (g : HLay W hb sb vc T H u h) (s : Spot H w 7 t p n k2 bs) (r : PairAt W Br Bw hb w 2) (i : Nat) (hi : i * 2 + 2 ≤ n) (ha : (p + i * 2) % 2 = 0) :
    Calls Tryz.prog 104 #[.int .i64 i, .pointer (some ⟨Br, 0, none⟩)] W fun e w' => e = .returned (.int .u64 (elI 7 (leN (seg bs (p + i * 2) 2)))) ∧ Below W.heap.size W w' := by
  obtain ⟨Bh, Bx, Bd, hR, hr, hw⟩ := r.ex
  have cr := raw1_c g s hR (.inr (.inl rfl)) i hi ha
  have eI : elI 7 (leN (seg bs (p + i * 2) 2)) = intW (sg16 (leN (seg bs (p + i * 2) 2))) := by unfold elI; rw [if_pos rfl]
  rw [eI]
  generalize leN (seg bs (p + i * 2) 2) = X at *
  have hs16 : -32768 ≤ sg16 X ∧ sg16 X ≤ 32767 := by unfold sg16; omega
  have hcv : IntKind.i16.wrap (X : Int) = sg16 X := wrap_16 X
  have hcw : IntKind.i64.wrap (sg16 X) = sg16 X := by rw [IntKind.wrap_i64]; omega
  have cs := fun w => small_c (sg16 X) (by unfold smallB; rw [decide_eq_true_eq]; omega) w
  have x1 := hr.cell
  generalize intW (sg16 X) = IW at *
  generalize sg16 X = S16 at *
  clear g s r hR hr hw hi ha eI hs16
  go_enter Tryz.func104, Tryz.ntmps104
  go_wp2_with (first | (go_at_call 131; (with_reducible refine cr.mono ?_); rintro e w2 ⟨rfl, hB2⟩; clear cr) | (go_at_call 105; (with_reducible refine (cs _).mono ?_); rintro e w' ⟨rfl, hw⟩; (have hw' := hw.symm); subst hw'; clear hw))
  go_ret
  exact ⟨rfl, hB2⟩
theorem shorts2_c {w : Nat} {k2 : Int} {t p n Br Bw : Nat} {bs : List Nat} (g : HLay W hb sb vc T H u h) (s : Spot H w 7 t p n k2 bs) (r : PairAt W Br Bw hb w 2) (i : Nat) (hi : i * 2 + 2 ≤ n) (ha : (p + i * 2) % 2 = 0) (xw : Int) (j : Int) (hj : -32768 ≤ j ∧ j ≤ 32767) :
    Calls Tryz.prog 106 #[.int .i64 i, .int .u64 xw, .agg #[.int .i64 2, .int .i64 j, .int .u64 0, .string ⟨#[]⟩, .int .u64 0], .pointer (some ⟨Bw, 0, none⟩)] W fun e w' => e = .returned (.int .i64 0) ∧ Upd T W w' ∧ HLay w' hb sb vc T (H.set t (some (.buf k2 (saved bs (p + i * 2) (j % 18446744073709551616).toNat 2)))) u h := by
  have hB1 : Below W.heap.size W (W.alloc (.cells #[.int .i64 2, .int .i64 j, .int .u64 0, .string ⟨#[]⟩, .int .u64 0] 33)) := (Below.refl _ W).alloc (Nat.le_refl _) _
  have e1 := World.cell?_alloc_new W #[.int .i64 2, .int .i64 j, .int .u64 0, .string ⟨#[]⟩, .int .u64 0] 33
  have ci := fun W => within_c j (-32768) 32767 W
  rw [if_pos hj] at ci
  have hwu : IntKind.u64.wrap j = (((j % 18446744073709551616).toNat : Nat) : Int) := by rw [IntKind.wrap_u64]; omega
  have hx64 : (j % 18446744073709551616).toNat < 18446744073709551616 := by omega
  have hv : ∀ w2, Below W.heap.size W w2 → (∃ Bh Bx Bd, w2.cell? ⟨Bw, 0, none⟩ = some (.func (.func 133) #[] #[.pointer (some ⟨Bh, 0, none⟩), .pointer (some ⟨Bx, 0, none⟩), .pointer (some ⟨Bd, 0, none⟩)]) ∧ Calls Tryz.prog 133 #[.int .i64 i, .int .u64 (((j % 18446744073709551616).toNat : Nat) : Int), .pointer (some ⟨Bh, 0, none⟩), .pointer (some ⟨Bx, 0, none⟩), .pointer (some ⟨Bd, 0, none⟩)] w2 fun e w' => e = .returned (.int .i64 0) ∧ Hid (Upd T W w' ∧ HLay w' hb sb vc T (H.set t (some (.buf k2 (saved bs (p + i * 2) (j % 18446744073709551616).toNat 2)))) u h)) := by
    intro w2 hB2
    obtain ⟨Bh, Bx, Bd, hR, hr, hw⟩ := (r.below hB2).ex
    refine ⟨Bh, Bx, Bd, hw.cell, (raw2_c (g.below hB2) s hR (.inr (.inl rfl)) i hi ha _ hx64).mono ?_⟩
    rintro e w' ⟨rfl, hU, hL⟩
    exact ⟨rfl, (Upd.of_below hB2).trans' hU, hL⟩
  generalize (H.set t (some (.buf k2 (saved bs (p + i * 2) (j % 18446744073709551616).toNat 2)))) = HH at *
  generalize (((j % 18446744073709551616).toNat : Nat) : Int) = XX at *
  have HV := hid hv
  have HB1 := hid hB1
  clear g s r hi ha hx64 hv hB1
  go_enter Tryz.func106, Tryz.ntmps106
  go_upto_region 4 with (go_at_call 107; (with_reducible refine (ci _).mono ?_); rintro e w2 ⟨rfl, hB2⟩; clear ci)
  obtain ⟨Bh, Bx, Bd, x1, cv⟩ := HV.out w2 (HB1.out.trans (hB2.mono HB1.out.size))
  go_wp2_with (go_at_call 133; (with_reducible refine cv.mono ?_); rintro e w3 ⟨rfl, hf⟩; clear cv)
  go_ret
  exact ⟨rfl, hf.out.1, hf.out.2⟩
theorem shorts2_range {Br Bw : Nat} (i xw j : Int) (hj : ¬ (-32768 ≤ j ∧ j ≤ 32767)) (W : World) :
    Calls Tryz.prog 106 #[.int .i64 i, .int .u64 xw, .agg #[.int .i64 2, .int .i64 j, .int .u64 0, .string ⟨#[]⟩, .int .u64 0], .pointer (some ⟨Bw, 0, none⟩)] W fun e w' => e = .returned (.int .i64 13) ∧ Below W.heap.size W w' := by
  have hB1 : Below W.heap.size W (W.alloc (.cells #[.int .i64 2, .int .i64 j, .int .u64 0, .string ⟨#[]⟩, .int .u64 0] 33)) := (Below.refl _ W).alloc (Nat.le_refl _) _
  have e1 := World.cell?_alloc_new W #[.int .i64 2, .int .i64 j, .int .u64 0, .string ⟨#[]⟩, .int .u64 0] 33
  have ci := fun W => within_c j (-32768) 32767 W
  rw [if_neg hj] at ci
  go_enter Tryz.func106, Tryz.ntmps106
  go_wp2_with (go_at_call 107; (with_reducible refine (ci _).mono ?_); rintro e w2 ⟨rfl, hB2⟩; clear ci)
  go_ret
  exact ⟨rfl, hB1.trans (hB2.mono hB1.size)⟩
theorem shorts2_type {Br Bw : Nat} (i xw kd : Int) (hk : ¬ kd = 2) (a bi : Int) (t : ByteArray) (re : Int) (W : World) :
    Calls Tryz.prog 106 #[.int .i64 i, .int .u64 xw, .agg #[.int .i64 kd, .int .i64 a, .int .u64 bi, .string t, .int .u64 re], .pointer (some ⟨Bw, 0, none⟩)] W fun e w' => e = .returned (.int .i64 51) ∧ Below W.heap.size W w' := by
  have hB1 : Below W.heap.size W (W.alloc (.cells #[.int .i64 kd, .int .i64 a, .int .u64 bi, .string t, .int .u64 re] 33)) := (Below.refl _ W).alloc (Nat.le_refl _) _
  have e1 := World.cell?_alloc_new W #[.int .i64 kd, .int .i64 a, .int .u64 bi, .string t, .int .u64 re] 33
  have ci := fun W => within_not kd hk a bi t re (-32768) 32767 W
  clear hk
  go_enter Tryz.func106, Tryz.ntmps106
  go_wp2_with (go_at_call 107; (with_reducible refine (ci _).mono ?_); rintro e w2 ⟨rfl, hB2⟩; clear ci)
  go_ret
  exact ⟨rfl, hB1.trans (hB2.mono hB1.size)⟩
set_option maxRecDepth 100000 in
theorem load_shorts {w : Nat} {k2 : Int} {t p n : Nat} {bs : List Nat} (g : HLay W hb sb vc T H u h) (s : Spot H w 7 t p n k2 bs) (i : Nat) (hi : i * 2 + 2 ≤ n) (ha : p % 2 = 0) :
    Calls Tryz.prog 11 #[.pointer (some ⟨hb, 0, none⟩), .int .u64 w, .int .i64 i] W fun e w' => e = .returned (.tuple #[.int .u64 (elI 7 (leN (seg bs (p + i * 2) 2))), .int .i64 0]) ∧ Below W.heap.size W w' := by
  obtain ⟨id, c, hit0, hc, hth, hk0, hcn⟩ := spot_thing s (by decide)
  have hcnt : i < c.cnt := by rw [hcn]; show i < n / 2; omega
  have ce := elem_c g w s.w64 id hit0 c hc hth i (by omega) (by omega)
  unfold ThPost at ce
  rw [hk0] at ce
  have hv : ∀ w4 Br Bw, Below W.heap.size W w4 → PairAt w4 Br Bw hb w 2 → Calls Tryz.prog 104 #[.int .i64 i, .pointer (some ⟨Br, 0, none⟩)] w4 fun e w' => e = .returned (.int .u64 (elI 7 (leN (seg bs (p + i * 2) 2)))) ∧ Below w4.heap.size w4 w' := fun w4 Br Bw hB hP => shorts1_c (g.below hB) s hP i hi (by omega)
  have hl8 : bs.length ≤ 8388608 := (g.ok t _ s.cell).2.2
  have hiw : IntKind.i64.wrap (i : Int) = i := by have := s.fit; rw [IntKind.wrap_i64]; omega
  have HV := hid hv
  generalize elI 7 (leN (seg bs (p + i * 2) 2)) = X at *
  generalize c.cl.view = vw at *
  generalize ((c.bytes.length : Nat) : Int) = nb at *
  generalize c.cl.base = ba at *
  generalize c.cl.frm = fr at *
  generalize c.cl.len = ln at *
  clear g s hi ha hv hc hth hk0 hcn hcnt hit0 hl8
  go_enter Tryz.func11, Tryz.ntmps11
  go_upto_region 2 with (go_at_call 32; (with_reducible refine ce.mono ?_); rintro e w2 ⟨rfl, hB2⟩; clear ce)
  have hB3 : Below w2.heap.size w2 (w2.alloc (.cells #[.int .i64 7, .bool vw, .int .i64 0, .string ⟨#[]⟩, .slice none 0 0, .slice none 0 0, .int .u64 ba, .int .i64 fr, .int .i64 ln, .int .i64 nb] 69)) := (Below.refl _ w2).alloc (Nat.le_refl _) _
  have e3 := World.cell?_alloc_new w2 #[.int .i64 7, .bool vw, .int .i64 0, .string ⟨#[]⟩, .slice none 0 0, .slice none 0 0, .int .u64 ba, .int .i64 fr, .int .i64 ln, .int .i64 nb] 69
  have hbel := hB2.trans (hB3.mono hB2.size)
  generalize w2.alloc (.cells #[.int .i64 7, .bool vw, .int .i64 0, .string ⟨#[]⟩, .slice none 0 0, .slice none 0 0, .int .u64 ba, .int .i64 fr, .int .i64 ln, .int .i64 nb] 69) = w3 at *
  have cp := pairOf_shorts w3 hb w
  have HBel := hid hbel
  have pf := fun f g cs ds w => pair_f0 f g cs ds w
  clear hB2 hB3 hbel
  go_wp2_with (first | (go_at_call 34; (with_reducible refine cp.mono ?_); rintro e w4 ⟨Br, Bw, rfl, hB4, hP4⟩; clear cp; (have cv := HV.out w4 Br Bw (HBel.out.trans (hB4.mono HBel.out.size)) hP4)) | (go_at_call 104; (with_reducible refine cv.mono ?_); rintro e w5 ⟨rfl, hB5⟩; clear cv))
  go_ret2
  exact ⟨rfl, (HBel.out.trans (hB4.mono HBel.out.size)).trans (hB5.mono (by have := HBel.out.size; have := hB4.size; omega))⟩
end
end Go.Proofs.YtenpopelbmeemaaGreat.W
/- Package buf: Load, of doubles and narrows. -/
namespace Go.Proofs.YtenpopelbmeemaaGreat.W
open Go.ChangeShapes Go.WideShapes Go.RowKit Go.Shelf
set_option linter.unusedVariables false
section
variable {W W' : World} {hb sb : Nat} {vc : Value} {T : Nat → Prop} {H : List (Option Hc)} {u h : Nat}
set_option maxRecDepth 100000 in
theorem pairOf_doubles (W : World) (hb w : Nat) : Calls Tryz.prog 34 #[.pointer (some ⟨hb, 0, none⟩), .int .u64 (w : Nat), .int .i64 5] W fun e w' => ∃ Br Bw, e = .returned (.agg #[.func (.func 97) #[] #[.pointer (some ⟨Br, 0, none⟩)], .func (.func 98) #[] #[.pointer (some ⟨Bw, 0, none⟩)]]) ∧ Below W.heap.size W w' ∧ PairAt w' Br Bw hb w 8 := by
  have hB2 : Below W.heap.size W (W.alloc (.cells #[.nilFunc, .nilFunc] 77)) := (Below.refl _ W).alloc (Nat.le_refl _) _
  have f2 := World.alloc_heap_new W (.cells #[.nilFunc, .nilFunc] 77)
  generalize hW2 : W.alloc (.cells #[.nilFunc, .nilFunc] 77) = W2 at *
  have cr := doubles_c W2 hb w
  have kp : Hid (∀ w4, Below W2.heap.size W2 w4 → w4.heap[W.heap.size]? = some (.cells #[.nilFunc, .nilFunc] 77) ∧ Below W.heap.size W w4) := by
    show ∀ w4, _
    intro w4 hB4
    exact ⟨(hB4.block _ (lt_get f2)).trans f2, hB2.trans (hB4.mono hB2.size)⟩
  clear hB2 f2
  go_enter Tryz.func34, Tryz.ntmps34
  go_upto_region 1 with fail
  clear hW2
  go_wp2_with (go_at_call 62; (with_reducible refine cr.mono ?_); rintro e w4 ⟨Br, Bw, rfl, hB4, hP4⟩; clear cr; (obtain ⟨f4, hB5⟩ := kp.out w4 hB4); (have eR := fun j => cell_of_row w4 W.heap.size j _ _ _ f4); (have zR := (fun j => by simp [World.frozen?, f4] : ∀ j, w4.frozen? ⟨W.heap.size, j, none⟩ = false)); (have FR := hid f4); (have HB := hid hB5); (have HP := hid hP4); clear f4 hB5 hP4 hB4)
  refine bodyPost_ret (pair_ret rfl _ _ W.heap.size _ _ (0, 0) rfl (two_set FR.out _ _)) rfl ?_
  refine ⟨Br, Bw, rfl, two_below HB.out (Nat.le_refl _) _ _, ?_⟩
  obtain ⟨Bh, Bx, Bd, hR, hr, hw⟩ := HP.out.ex
  have ne : ∀ {B t : Nat} {v : Value}, Boxed w4 B t v → B ≠ W.heap.size := by
    intro B t v hb e
    subst e
    have := FR.out
    unfold Boxed at hb
    rw [hb] at this
    simp at this
  exact ⟨Bh, Bx, Bd, ⟨box_of (two_far _ _ _ _ _ (ne hR.h)) hR.h, box_of (two_far _ _ _ _ _ (ne hR.x)) hR.x, box_of (two_far _ _ _ _ _ (ne hR.d)) hR.d⟩, box_of (two_far _ _ _ _ _ (ne hr)) hr, box_of (two_far _ _ _ _ _ (ne hw)) hw⟩
set_option maxRecDepth 100000 in
theorem pairOf_narrows (W : World) (hb w : Nat) : Calls Tryz.prog 34 #[.pointer (some ⟨hb, 0, none⟩), .int .u64 (w : Nat), .int .i64 6] W fun e w' => ∃ Br Bw, e = .returned (.agg #[.func (.func 100) #[] #[.pointer (some ⟨Br, 0, none⟩)], .func (.func 102) #[] #[.pointer (some ⟨Bw, 0, none⟩)]]) ∧ Below W.heap.size W w' ∧ PairAt w' Br Bw hb w 4 := by
  have hB2 : Below W.heap.size W (W.alloc (.cells #[.nilFunc, .nilFunc] 77)) := (Below.refl _ W).alloc (Nat.le_refl _) _
  have f2 := World.alloc_heap_new W (.cells #[.nilFunc, .nilFunc] 77)
  generalize hW2 : W.alloc (.cells #[.nilFunc, .nilFunc] 77) = W2 at *
  have cr := narrows_c W2 hb w
  have kp : Hid (∀ w4, Below W2.heap.size W2 w4 → w4.heap[W.heap.size]? = some (.cells #[.nilFunc, .nilFunc] 77) ∧ Below W.heap.size W w4) := by
    show ∀ w4, _
    intro w4 hB4
    exact ⟨(hB4.block _ (lt_get f2)).trans f2, hB2.trans (hB4.mono hB2.size)⟩
  clear hB2 f2
  go_enter Tryz.func34, Tryz.ntmps34
  go_upto_region 1 with fail
  clear hW2
  go_wp2_with (go_at_call 63; (with_reducible refine cr.mono ?_); rintro e w4 ⟨Br, Bw, rfl, hB4, hP4⟩; clear cr; (obtain ⟨f4, hB5⟩ := kp.out w4 hB4); (have eR := fun j => cell_of_row w4 W.heap.size j _ _ _ f4); (have zR := (fun j => by simp [World.frozen?, f4] : ∀ j, w4.frozen? ⟨W.heap.size, j, none⟩ = false)); (have FR := hid f4); (have HB := hid hB5); (have HP := hid hP4); clear f4 hB5 hP4 hB4)
  refine bodyPost_ret (pair_ret rfl _ _ W.heap.size _ _ (0, 0) rfl (two_set FR.out _ _)) rfl ?_
  refine ⟨Br, Bw, rfl, two_below HB.out (Nat.le_refl _) _ _, ?_⟩
  obtain ⟨Bh, Bx, Bd, hR, hr, hw⟩ := HP.out.ex
  have ne : ∀ {B t : Nat} {v : Value}, Boxed w4 B t v → B ≠ W.heap.size := by
    intro B t v hb e
    subst e
    have := FR.out
    unfold Boxed at hb
    rw [hb] at this
    simp at this
  exact ⟨Bh, Bx, Bd, ⟨box_of (two_far _ _ _ _ _ (ne hR.h)) hR.h, box_of (two_far _ _ _ _ _ (ne hR.x)) hR.x, box_of (two_far _ _ _ _ _ (ne hR.d)) hR.d⟩, box_of (two_far _ _ _ _ _ (ne hr)) hr, box_of (two_far _ _ _ _ _ (ne hw)) hw⟩
theorem doubles1_c {w : Nat} {k2 : Int} {t p n Br Bw : Nat} {bs : List Nat} (g : HLay W hb sb vc T H u h) (s : Spot H w 5 t p n k2 bs) (r : PairAt W Br Bw hb w 8) (i : Nat) (hi : i * 8 + 8 ≤ n) (ha : (p + i * 8) % 8 = 0) :
    Calls Tryz.prog 97 #[.int .i64 i, .pointer (some ⟨Br, 0, none⟩)] W fun e w' => e = .returned (.int .u64 (fltW ((leN (seg bs (p + i * 8) 8) : Nat) : Int))) ∧ Below W.heap.size W w' := by
  obtain ⟨Bh, Bx, Bd, hR, hr, hw⟩ := r.ex
  have cr := raw1_c g s hR (.inr (.inr (.inr rfl))) i hi ha
  have hok := g.ok t _ s.cell
  have hN : leN (seg bs (p + i * 8) 8) < 18446744073709551616 := by
    have h1 := leN_lt (seg bs (p + i * 8) 8) (fun x hx => hok.2.1 x (List.mem_of_mem_drop (List.mem_of_mem_take hx)))
    have h2 : (seg bs (p + i * 8) 8).length ≤ 8 := by unfold seg; rw [List.length_take]; omega
    have h3 : 256 ^ (seg bs (p + i * 8) 8).length ≤ 256 ^ 8 := Nat.pow_le_pow_right (by omega) h2
    omega
  have cs := fun w => fromFloat_c ((leN (seg bs (p + i * 8) 8) : Nat) : Int) (by omega) (by omega) w
  have x1 := hr.cell
  generalize leN (seg bs (p + i * 8) 8) = X at *
  generalize fltW (X : Int) = IW at *
  clear g s r hR hr hw hok hi ha hN
  go_enter Tryz.func97, Tryz.ntmps97
  go_wp2_with (first | (go_at_call 131; (with_reducible refine cr.mono ?_); rintro e w2 ⟨rfl, hB2⟩; clear cr) | (go_at_call 29; (with_reducible refine (cs _).mono ?_); rintro e w' ⟨rfl, hw⟩; (have hw' := hw.symm); subst hw'; clear hw))
  go_ret
  exact ⟨rfl, hB2⟩
theorem narrows1_c {w : Nat} {k2 : Int} {t p n Br Bw : Nat} {bs : List Nat} (g : HLay W hb sb vc T H u h) (s : Spot H w 6 t p n k2 bs) (r : PairAt W Br Bw hb w 4) (i : Nat) (hi : i * 4 + 4 ≤ n) (ha : (p + i * 4) % 4 = 0) (y : Int) (hwi : ∀ w, Calls Tryz.prog 101 #[.int .u32 ((leN (seg bs (p + i * 4) 4) : Nat) : Int)] w fun e w' => e = .returned (.int .u64 y) ∧ Below w.heap.size w w') :
    Calls Tryz.prog 100 #[.int .i64 i, .pointer (some ⟨Br, 0, none⟩)] W fun e w' => e = .returned (.int .u64 y) ∧ Below W.heap.size W w' := by
  obtain ⟨Bh, Bx, Bd, hR, hr, hw⟩ := r.ex
  have cr := raw1_c g s hR (.inr (.inr (.inl rfl))) i hi ha
  have hok := g.ok t _ s.cell
  have hN : leN (seg bs (p + i * 4) 4) < 4294967296 := by
    have h1 := leN_lt (seg bs (p + i * 4) 4) (fun x hx => hok.2.1 x (List.mem_of_mem_drop (List.mem_of_mem_take hx)))
    have h2 : (seg bs (p + i * 4) 4).length ≤ 4 := by unfold seg; rw [List.length_take]; omega
    have h3 : 256 ^ (seg bs (p + i * 4) 4).length ≤ 256 ^ 4 := Nat.pow_le_pow_right (by omega) h2
    omega
  have hcv : IntKind.u32.wrap ((leN (seg bs (p + i * 4) 4) : Nat) : Int) = ((leN (seg bs (p + i * 4) 4) : Nat) : Int) := by
    have e : ∀ z : Int, 0 ≤ z → z < 4294967296 → IntKind.u32.wrap z = z := by
      intro z h0 h1
      unfold IntKind.wrap
      simp [IntKind.bits, IntKind.signed]
      omega
    exact e _ (by omega) (by omega)
  have x1 := hr.cell
  generalize leN (seg bs (p + i * 4) 4) = X at *
  clear g s r hR hr hw hok hi ha hN
  go_enter Tryz.func100, Tryz.ntmps100
  go_wp2_with (first | (go_at_call 131; (with_reducible refine cr.mono ?_); rintro e w2 ⟨rfl, hB2⟩; clear cr) | (go_at_call 101; (with_reducible refine (hwi _).mono ?_); rintro e w3 ⟨rfl, hB3⟩; clear hwi))
  go_ret
  exact ⟨rfl, hB2.trans (hB3.mono hB2.size)⟩
set_option maxRecDepth 100000 in
theorem load_doubles {w : Nat} {k2 : Int} {t p n : Nat} {bs : List Nat} (g : HLay W hb sb vc T H u h) (s : Spot H w 5 t p n k2 bs) (i : Nat) (hi : i * 8 + 8 ≤ n) (ha : p % 8 = 0) :
    Calls Tryz.prog 11 #[.pointer (some ⟨hb, 0, none⟩), .int .u64 w, .int .i64 i] W fun e w' => e = .returned (.tuple #[.int .u64 (fltW ((leN (seg bs (p + i * 8) 8) : Nat) : Int)), .int .i64 0]) ∧ Below W.heap.size W w' := by
  obtain ⟨id, c, hit0, hc, hth, hk0, hcn⟩ := spot_thing s (by decide)
  have hcnt : i < c.cnt := by rw [hcn]; show i < n / 8; omega
  have ce := elem_c g w s.w64 id hit0 c hc hth i (by omega) (by omega)
  unfold ThPost at ce
  rw [hk0] at ce
  have hv : ∀ w4 Br Bw, Below W.heap.size W w4 → PairAt w4 Br Bw hb w 8 → Calls Tryz.prog 97 #[.int .i64 i, .pointer (some ⟨Br, 0, none⟩)] w4 fun e w' => e = .returned (.int .u64 (fltW ((leN (seg bs (p + i * 8) 8) : Nat) : Int))) ∧ Below w4.heap.size w4 w' := fun w4 Br Bw hB hP => doubles1_c (g.below hB) s hP i hi (by omega)
  have hl8 : bs.length ≤ 8388608 := (g.ok t _ s.cell).2.2
  have hiw : IntKind.i64.wrap (i : Int) = i := by have := s.fit; rw [IntKind.wrap_i64]; omega
  have HV := hid hv
  generalize fltW ((leN (seg bs (p + i * 8) 8) : Nat) : Int) = X at *
  generalize c.cl.view = vw at *
  generalize ((c.bytes.length : Nat) : Int) = nb at *
  generalize c.cl.base = ba at *
  generalize c.cl.frm = fr at *
  generalize c.cl.len = ln at *
  clear g s hi ha hv hc hth hk0 hcn hcnt hit0 hl8
  go_enter Tryz.func11, Tryz.ntmps11
  go_upto_region 2 with (go_at_call 32; (with_reducible refine ce.mono ?_); rintro e w2 ⟨rfl, hB2⟩; clear ce)
  have hB3 : Below w2.heap.size w2 (w2.alloc (.cells #[.int .i64 5, .bool vw, .int .i64 0, .string ⟨#[]⟩, .slice none 0 0, .slice none 0 0, .int .u64 ba, .int .i64 fr, .int .i64 ln, .int .i64 nb] 69)) := (Below.refl _ w2).alloc (Nat.le_refl _) _
  have e3 := World.cell?_alloc_new w2 #[.int .i64 5, .bool vw, .int .i64 0, .string ⟨#[]⟩, .slice none 0 0, .slice none 0 0, .int .u64 ba, .int .i64 fr, .int .i64 ln, .int .i64 nb] 69
  have hbel := hB2.trans (hB3.mono hB2.size)
  generalize w2.alloc (.cells #[.int .i64 5, .bool vw, .int .i64 0, .string ⟨#[]⟩, .slice none 0 0, .slice none 0 0, .int .u64 ba, .int .i64 fr, .int .i64 ln, .int .i64 nb] 69) = w3 at *
  have cp := pairOf_doubles w3 hb w
  have HBel := hid hbel
  have pf := fun f g cs ds w => pair_f0 f g cs ds w
  clear hB2 hB3 hbel
  go_wp2_with (first | (go_at_call 34; (with_reducible refine cp.mono ?_); rintro e w4 ⟨Br, Bw, rfl, hB4, hP4⟩; clear cp; (have cv := HV.out w4 Br Bw (HBel.out.trans (hB4.mono HBel.out.size)) hP4)) | (go_at_call 97; (with_reducible refine cv.mono ?_); rintro e w5 ⟨rfl, hB5⟩; clear cv))
  go_ret2
  exact ⟨rfl, (HBel.out.trans (hB4.mono HBel.out.size)).trans (hB5.mono (by have := HBel.out.size; have := hB4.size; omega))⟩
set_option maxRecDepth 100000 in
theorem load_narrows {w : Nat} {k2 : Int} {t p n : Nat} {bs : List Nat} (g : HLay W hb sb vc T H u h) (s : Spot H w 6 t p n k2 bs) (i : Nat) (hi : i * 4 + 4 ≤ n) (ha : p % 4 = 0) (y : Int) (hwi : ∀ w, Calls Tryz.prog 101 #[.int .u32 ((leN (seg bs (p + i * 4) 4) : Nat) : Int)] w fun e w' => e = .returned (.int .u64 y) ∧ Below w.heap.size w w') :
    Calls Tryz.prog 11 #[.pointer (some ⟨hb, 0, none⟩), .int .u64 w, .int .i64 i] W fun e w' => e = .returned (.tuple #[.int .u64 y, .int .i64 0]) ∧ Below W.heap.size W w' := by
  obtain ⟨id, c, hit0, hc, hth, hk0, hcn⟩ := spot_thing s (by decide)
  have hcnt : i < c.cnt := by rw [hcn]; show i < n / 4; omega
  have ce := elem_c g w s.w64 id hit0 c hc hth i (by omega) (by omega)
  unfold ThPost at ce
  rw [hk0] at ce
  have hv : ∀ w4 Br Bw, Below W.heap.size W w4 → PairAt w4 Br Bw hb w 4 → Calls Tryz.prog 100 #[.int .i64 i, .pointer (some ⟨Br, 0, none⟩)] w4 fun e w' => e = .returned (.int .u64 y) ∧ Below w4.heap.size w4 w' := fun w4 Br Bw hB hP => narrows1_c (g.below hB) s hP i hi (by omega) y hwi
  have hl8 : bs.length ≤ 8388608 := (g.ok t _ s.cell).2.2
  have hiw : IntKind.i64.wrap (i : Int) = i := by have := s.fit; rw [IntKind.wrap_i64]; omega
  have HV := hid hv
  clear hwi
  generalize c.cl.view = vw at *
  generalize ((c.bytes.length : Nat) : Int) = nb at *
  generalize c.cl.base = ba at *
  generalize c.cl.frm = fr at *
  generalize c.cl.len = ln at *
  clear g s hi ha hv hc hth hk0 hcn hcnt hit0 hl8
  go_enter Tryz.func11, Tryz.ntmps11
  go_upto_region 2 with (go_at_call 32; (with_reducible refine ce.mono ?_); rintro e w2 ⟨rfl, hB2⟩; clear ce)
  have hB3 : Below w2.heap.size w2 (w2.alloc (.cells #[.int .i64 6, .bool vw, .int .i64 0, .string ⟨#[]⟩, .slice none 0 0, .slice none 0 0, .int .u64 ba, .int .i64 fr, .int .i64 ln, .int .i64 nb] 69)) := (Below.refl _ w2).alloc (Nat.le_refl _) _
  have e3 := World.cell?_alloc_new w2 #[.int .i64 6, .bool vw, .int .i64 0, .string ⟨#[]⟩, .slice none 0 0, .slice none 0 0, .int .u64 ba, .int .i64 fr, .int .i64 ln, .int .i64 nb] 69
  have hbel := hB2.trans (hB3.mono hB2.size)
  generalize w2.alloc (.cells #[.int .i64 6, .bool vw, .int .i64 0, .string ⟨#[]⟩, .slice none 0 0, .slice none 0 0, .int .u64 ba, .int .i64 fr, .int .i64 ln, .int .i64 nb] 69) = w3 at *
  have cp := pairOf_narrows w3 hb w
  have HBel := hid hbel
  have pf := fun f g cs ds w => pair_f0 f g cs ds w
  clear hB2 hB3 hbel
  go_wp2_with (first | (go_at_call 34; (with_reducible refine cp.mono ?_); rintro e w4 ⟨Br, Bw, rfl, hB4, hP4⟩; clear cp; (have cv := HV.out w4 Br Bw (HBel.out.trans (hB4.mono HBel.out.size)) hP4)) | (go_at_call 100; (with_reducible refine cv.mono ?_); rintro e w5 ⟨rfl, hB5⟩; clear cv))
  go_ret2
  exact ⟨rfl, (HBel.out.trans (hB4.mono HBel.out.size)).trans (hB5.mono (by have := HBel.out.size; have := hB4.size; omega))⟩
end
end Go.Proofs.YtenpopelbmeemaaGreat.W
