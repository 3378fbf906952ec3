import Derived.Test.YtikgicepdalfpaaGreatBase10
import Derived.Laws.FloatArith
import Derived.Deep.Draws
import Derived.Laws.NewFold
import Derived.Test.YtikgicepdalfpaaGreatBase0
/- Package buf: pairOf; Load and Store, of octets and shorts. -/
namespace Go.Proofs.YtikgicepdalfpaaGreat.W
open Go.ChangeShapes Go.WideShapes Go.RowKit Go.Shelf
set_option linter.unusedVariables false
theorem small_c (i : Int) (h : smallB i = true) (W : World) : Calls Tryz.prog 92 #[.int .i64 i] W fun e w' => e = .returned (.int .u64 (intW i)) ∧ w' = W := by
  have hb : -140737488355328 ≤ i ∧ i ≤ 140737488355327 := by simpa [smallB] using h
  have cf := fromInt_c i (by omega) (by omega) W
  go_enter Tryz.func92, Tryz.ntmps92
  go_wp2_with (go_at_call 40; (with_reducible refine cf.mono ?_); rintro e w' ⟨rfl, hw⟩; (have hw' := hw.symm); subst hw'; clear hw)
  go_ret
  exact ⟨rfl, rfl⟩
/-- a whole number of sixteen bits -/
def sg16 (n : Nat) : Int := ((n : Int) + 32768) % 65536 - 32768
theorem wrap_16 (n : Nat) : IntKind.i16.wrap (n : Int) = sg16 n := by
  have e : IntKind.i16.wrap (n : Int) = if (n : Int) % 65536 ≥ 32768 then (n : Int) % 65536 - 65536 else (n : Int) % 65536 := by
    unfold IntKind.wrap
    simp [IntKind.bits, IntKind.signed]
  rw [e]
  unfold sg16
  split <;> omega
/-- the word of an element of whole numbers -/
def elI (k : Int) (n : Nat) : Int := if k = 7 then intW (sg16 n) else intW n
theorem within_c (j lo hi : Int) (W : World) : Calls Tryz.prog 94 #[.agg #[.int .i64 2, .int .i64 j, .int .u64 0, .string ⟨#[]⟩, .int .u64 0], .int .i64 lo, .int .i64 hi] W fun e w' => e = .returned (if lo ≤ j ∧ j ≤ hi then .tuple #[.int .i64 j, .int .i64 0] else .tuple #[.int .i64 0, .int .i64 13]) ∧ Below W.heap.size W w' := by
  have hB : Below W.heap.size W (W.alloc (.cells #[.int .i64 2, .int .i64 j, .int .u64 0, .string ⟨#[]⟩, .int .u64 0] 33)) := (Below.refl _ W).alloc (Nat.le_refl _) _
  have e1 := World.cell?_alloc_new W #[.int .i64 2, .int .i64 j, .int .u64 0, .string ⟨#[]⟩, .int .u64 0] 33
  by_cases a : j < lo
  · rw [if_neg (by omega)]
    go_enter Tryz.func94, Tryz.ntmps94
    go_wp2
    go_ret2
    exact ⟨rfl, hB⟩
  · by_cases b : j > hi
    · rw [if_neg (by omega)]
      go_enter Tryz.func94, Tryz.ntmps94
      go_wp2
      go_ret2
      exact ⟨rfl, hB⟩
    · rw [if_pos (by omega)]
      go_enter Tryz.func94, Tryz.ntmps94
      go_wp2
      go_ret2
      exact ⟨rfl, hB⟩
theorem within_not (kd : Int) (hk : ¬ kd = 2) (i bi : Int) (t : ByteArray) (re lo hi : Int) (W : World) : Calls Tryz.prog 94 #[.agg #[.int .i64 kd, .int .i64 i, .int .u64 bi, .string t, .int .u64 re], .int .i64 lo, .int .i64 hi] W fun e w' => e = .returned (.tuple #[.int .i64 0, .int .i64 51]) ∧ Below W.heap.size W w' := by
  have hB : Below W.heap.size W (W.alloc (.cells #[.int .i64 kd, .int .i64 i, .int .u64 bi, .string t, .int .u64 re] 33)) := (Below.refl _ W).alloc (Nat.le_refl _) _
  have e1 := World.cell?_alloc_new W #[.int .i64 kd, .int .i64 i, .int .u64 bi, .string t, .int .u64 re] 33
  go_enter Tryz.func94, Tryz.ntmps94
  go_wp2
  go_ret2
  exact ⟨rfl, hB⟩
theorem spot_thing {H : List (Option Hc)} {w : Nat} {k k2 : Int} {t p n : Nat} {bs : List Nat} (s : Spot H w k t p n k2 bs) (hk : elB k > 0) : ∃ id c, hit H w = some id ∧ H[id]? = some (some c) ∧ isTh c ∧ c.cl.kind = k ∧ c.cnt = n / elB k := by
  obtain ⟨id, hi, ⟨hc, rfl, rfl, rfl, rfl⟩ | ⟨ba, c, hc, hb2, rfl⟩⟩ := s.road
  · exact ⟨t, _, hi, hc, trivial, rfl, rfl⟩
  · refine ⟨id, _, hi, hc, trivial, rfl, ?_⟩
    show c = c * elB k / elB k
    rw [Nat.mul_div_cancel _ hk]
theorem pair_f0 (f g : Fn) (cs ds : Array Value) (w : World) : (Instr.field 65 (.agg #[.func f #[] cs, .func g #[] ds]) 0).run Tryz.prog w = .ok (.func f #[] cs) w := by kernel_rfl
theorem pair_f1 (f g : Fn) (cs ds : Array Value) (w : World) : (Instr.field 65 (.agg #[.func f #[] cs, .func g #[] ds]) 1).run Tryz.prog w = .ok (.func g #[] ds) w := by kernel_rfl
section
variable {W W' : World} {hb sb : Nat} {vc : Value} {T : Nat → Prop} {H : List (Option Hc)} {u h : Nat}
set_option maxRecDepth 100000 in
theorem pairOf_octets (W : World) (hb w : Nat) (vw : Bool) (ob ow : Option Addr) (bl bc wl wc : Nat) (ba fr ln : Int) : Calls Tryz.prog 26 #[.pointer (some ⟨hb, 0, none⟩), .int .u64 (w : Nat), .agg #[.int .i64 8, .bool vw, .int .i64 0, .string ⟨#[]⟩, .slice ob bl bc, .slice ow wl wc, .int .u64 ba, .int .i64 fr, .int .i64 ln]] W fun e w' => ∃ Br Bw, e = .returned (.agg #[.func (.func 95) #[] #[.pointer (some ⟨Br, 0, none⟩)], .func (.func 96) #[] #[.pointer (some ⟨Bw, 0, none⟩)]]) ∧ Below W.heap.size W w' ∧ PairAt w' Br Bw hb w 1 := by
  have hB1 : Below W.heap.size W (W.alloc (.cells #[.int .i64 8, .bool vw, .int .i64 0, .string ⟨#[]⟩, .slice ob bl bc, .slice ow wl wc, .int .u64 ba, .int .i64 fr, .int .i64 ln] 50)) := (Below.refl _ W).alloc (Nat.le_refl _) _
  have hs1 : (W.alloc (.cells #[.int .i64 8, .bool vw, .int .i64 0, .string ⟨#[]⟩, .slice ob bl bc, .slice ow wl wc, .int .u64 ba, .int .i64 fr, .int .i64 ln] 50)).heap.size = W.heap.size + 1 := World.size_alloc ..
  have e1 := World.cell?_alloc_new W #[.int .i64 8, .bool vw, .int .i64 0, .string ⟨#[]⟩, .slice ob bl bc, .slice ow wl wc, .int .u64 ba, .int .i64 fr, .int .i64 ln] 50 0
  simp only [List.getElem?_toArray, List.getElem?_cons_zero] at e1
  generalize hW1 : W.alloc (.cells #[.int .i64 8, .bool vw, .int .i64 0, .string ⟨#[]⟩, .slice ob bl bc, .slice ow wl wc, .int .u64 ba, .int .i64 fr, .int .i64 ln] 50) = W1 at *
  have hB2 : Below W1.heap.size W1 (W1.alloc (.cells #[.nilFunc, .nilFunc] 65)) := (Below.refl _ W1).alloc (Nat.le_refl _) _
  have hs2 : (W1.alloc (.cells #[.nilFunc, .nilFunc] 65)).heap.size = W.heap.size + 2 := by rw [World.size_alloc, hs1]
  have f2 := World.alloc_heap_new W1 (.cells #[.nilFunc, .nilFunc] 65)
  have e2 := below_cell hB2 e1
  generalize hW2 : W1.alloc (.cells #[.nilFunc, .nilFunc] 65) = W2 at *
  have cr := octets_c W2 hb w
  have kp : Hid (∀ w4, Below W2.heap.size W2 w4 → w4.heap[W1.heap.size]? = some (.cells #[.nilFunc, .nilFunc] 65) ∧ Below W.heap.size W w4) := by
    show ∀ w4, _
    intro w4 hB4
    have := hB2.size
    exact ⟨(hB4.block _ (by omega)).trans f2, (hB1.trans (hB2.mono hB1.size)).trans (hB4.mono (by have := hB1.size; omega))⟩
  have HS1 : Hid (W.heap.size ≤ W1.heap.size) := hid hB1.size
  clear hB1 hs1 e1 hB2 hs2 f2
  go_enter Tryz.func26, Tryz.ntmps26
  go_upto_region 1 with fail
  clear hW1 hW2
  go_wp2_with (go_at_call 54; (with_reducible refine cr.mono ?_); rintro e w4 ⟨Br, Bw, rfl, hB4, hP4⟩; clear cr; (obtain ⟨f4, hB5⟩ := kp.out w4 hB4); (have eR := fun j => cell_of_row w4 W1.heap.size j _ _ _ f4); (have zR := (fun j => by simp [World.frozen?, f4] : ∀ j, w4.frozen? ⟨W1.heap.size, j, none⟩ = false)); (have FR := hid f4); (have HB := hid hB5); (have HP := hid hP4); clear f4 hB5 hP4 hB4)
  refine bodyPost_ret (pair_ret rfl _ _ W1.heap.size _ _ (0, 0) rfl (two_set FR.out _ _)) rfl ?_
  refine ⟨Br, Bw, rfl, two_below HB.out HS1.out _ _, ?_⟩
  obtain ⟨Bh, Bx, Bd, hR, hr, hw⟩ := HP.out.ex
  have ne : ∀ {B t : Nat} {v : Value}, Boxed w4 B t v → B ≠ W1.heap.size := by
    intro B t v hb e
    subst e
    have := FR.out
    unfold Boxed at hb
    rw [hb] at this
    simp at this
  exact ⟨Bh, Bx, Bd, ⟨box_of (two_far _ _ _ _ _ (ne hR.h)) hR.h, box_of (two_far _ _ _ _ _ (ne hR.x)) hR.x, box_of (two_far _ _ _ _ _ (ne hR.d)) hR.d⟩, box_of (two_far _ _ _ _ _ (ne hr)) hr, box_of (two_far _ _ _ _ _ (ne hw)) hw⟩
theorem octets1_c {w : Nat} {k2 : Int} {t p n Br Bw : Nat} {bs : List Nat} (g : HLay W hb sb vc T H u h) (s : Spot H w 8 t p n k2 bs) (r : PairAt W Br Bw hb w 1) (i : Nat) (hi : i * 1 + 1 ≤ n) (ha : (p + i * 1) % 1 = 0) :
    Calls Tryz.prog 95 #[.int .i64 i, .pointer (some ⟨Br, 0, none⟩)] W fun e w' => e = .returned (.int .u64 (elI 8 (leN (seg bs (p + i * 1) 1)))) ∧ Below W.heap.size W w' := by
  obtain ⟨Bh, Bx, Bd, hR, hr, hw⟩ := r.ex
  have cr := raw1_c g s hR (.inl rfl) i hi ha
  have hok := g.ok t _ s.cell
  have hN : leN (seg bs (p + i * 1) 1) < 256 := by
    have h1 := leN_lt (seg bs (p + i * 1) 1) (fun x hx => hok.2.1 x (List.mem_of_mem_drop (List.mem_of_mem_take hx)))
    have h2 : (seg bs (p + i * 1) 1).length ≤ 1 := by unfold seg; rw [List.length_take]; omega
    have h3 : 256 ^ (seg bs (p + i * 1) 1).length ≤ 256 ^ 1 := Nat.pow_le_pow_right (by omega) h2
    omega
  have hcv : IntKind.i64.wrap ((leN (seg bs (p + i * 1) 1) : Nat) : Int) = ((leN (seg bs (p + i * 1) 1) : Nat) : Int) := by rw [IntKind.wrap_i64]; omega
  have cs := fun w => small_c ((leN (seg bs (p + i * 1) 1) : Nat) : Int) (by unfold smallB; rw [decide_eq_true_eq]; omega) w
  have eI : elI 8 (leN (seg bs (p + i * 1) 1)) = intW ((leN (seg bs (p + i * 1) 1) : Nat) : Int) := by unfold elI; rw [if_neg (by decide)]
  rw [eI]
  have x1 := hr.cell
  generalize leN (seg bs (p + i * 1) 1) = X at *
  generalize intW (X : Int) = IW at *
  clear g s r hR hr hw hok hi ha hN eI
  go_enter Tryz.func95, Tryz.ntmps95
  go_wp2_with (first | (go_at_call 120; (with_reducible refine cr.mono ?_); rintro e w2 ⟨rfl, hB2⟩; clear cr) | (go_at_call 92; (with_reducible refine (cs _).mono ?_); rintro e w' ⟨rfl, hw⟩; (have hw' := hw.symm); subst hw'; clear hw))
  go_ret
  exact ⟨rfl, hB2⟩
theorem octets2_c {w : Nat} {k2 : Int} {t p n Br Bw : Nat} {bs : List Nat} (g : HLay W hb sb vc T H u h) (s : Spot H w 8 t p n k2 bs) (r : PairAt W Br Bw hb w 1) (i : Nat) (hi : i * 1 + 1 ≤ n) (ha : (p + i * 1) % 1 = 0) (xw : Int) (j : Int) (hj : 0 ≤ j ∧ j ≤ 255) :
    Calls Tryz.prog 96 #[.int .i64 i, .int .u64 xw, .agg #[.int .i64 2, .int .i64 j, .int .u64 0, .string ⟨#[]⟩, .int .u64 0], .pointer (some ⟨Bw, 0, none⟩)] W fun e w' => e = .returned (.int .i64 0) ∧ Upd T W w' ∧ HLay w' hb sb vc T (H.set t (some (.buf k2 (saved bs (p + i * 1) (j % 18446744073709551616).toNat 1)))) u h := by
  have hB1 : Below W.heap.size W (W.alloc (.cells #[.int .i64 2, .int .i64 j, .int .u64 0, .string ⟨#[]⟩, .int .u64 0] 33)) := (Below.refl _ W).alloc (Nat.le_refl _) _
  have e1 := World.cell?_alloc_new W #[.int .i64 2, .int .i64 j, .int .u64 0, .string ⟨#[]⟩, .int .u64 0] 33
  have ci := fun W => within_c j (0) 255 W
  rw [if_pos hj] at ci
  have hwu : IntKind.u64.wrap j = (((j % 18446744073709551616).toNat : Nat) : Int) := by rw [IntKind.wrap_u64]; omega
  have hx64 : (j % 18446744073709551616).toNat < 18446744073709551616 := by omega
  have hv : ∀ w2, Below W.heap.size W w2 → (∃ Bh Bx Bd, w2.cell? ⟨Bw, 0, none⟩ = some (.func (.func 122) #[] #[.pointer (some ⟨Bh, 0, none⟩), .pointer (some ⟨Bx, 0, none⟩), .pointer (some ⟨Bd, 0, none⟩)]) ∧ Calls Tryz.prog 122 #[.int .i64 i, .int .u64 (((j % 18446744073709551616).toNat : Nat) : Int), .pointer (some ⟨Bh, 0, none⟩), .pointer (some ⟨Bx, 0, none⟩), .pointer (some ⟨Bd, 0, none⟩)] w2 fun e w' => e = .returned (.int .i64 0) ∧ Hid (Upd T W w' ∧ HLay w' hb sb vc T (H.set t (some (.buf k2 (saved bs (p + i * 1) (j % 18446744073709551616).toNat 1)))) u h)) := by
    intro w2 hB2
    obtain ⟨Bh, Bx, Bd, hR, hr, hw⟩ := (r.below hB2).ex
    refine ⟨Bh, Bx, Bd, hw.cell, (raw2_c (g.below hB2) s hR (.inl rfl) i hi ha _ hx64).mono ?_⟩
    rintro e w' ⟨rfl, hU, hL⟩
    exact ⟨rfl, (Upd.of_below hB2).trans' hU, hL⟩
  generalize (H.set t (some (.buf k2 (saved bs (p + i * 1) (j % 18446744073709551616).toNat 1)))) = HH at *
  generalize (((j % 18446744073709551616).toNat : Nat) : Int) = XX at *
  have HV := hid hv
  have HB1 := hid hB1
  clear g s r hi ha hx64 hv hB1
  go_enter Tryz.func96, Tryz.ntmps96
  go_upto_region 4 with (go_at_call 94; (with_reducible refine (ci _).mono ?_); rintro e w2 ⟨rfl, hB2⟩; clear ci)
  obtain ⟨Bh, Bx, Bd, x1, cv⟩ := HV.out w2 (HB1.out.trans (hB2.mono HB1.out.size))
  go_wp2_with (go_at_call 122; (with_reducible refine cv.mono ?_); rintro e w3 ⟨rfl, hf⟩; clear cv)
  go_ret
  exact ⟨rfl, hf.out.1, hf.out.2⟩
theorem octets2_range {Br Bw : Nat} (i xw j : Int) (hj : ¬ (0 ≤ j ∧ j ≤ 255)) (W : World) :
    Calls Tryz.prog 96 #[.int .i64 i, .int .u64 xw, .agg #[.int .i64 2, .int .i64 j, .int .u64 0, .string ⟨#[]⟩, .int .u64 0], .pointer (some ⟨Bw, 0, none⟩)] W fun e w' => e = .returned (.int .i64 13) ∧ Below W.heap.size W w' := by
  have hB1 : Below W.heap.size W (W.alloc (.cells #[.int .i64 2, .int .i64 j, .int .u64 0, .string ⟨#[]⟩, .int .u64 0] 33)) := (Below.refl _ W).alloc (Nat.le_refl _) _
  have e1 := World.cell?_alloc_new W #[.int .i64 2, .int .i64 j, .int .u64 0, .string ⟨#[]⟩, .int .u64 0] 33
  have ci := fun W => within_c j (0) 255 W
  rw [if_neg hj] at ci
  go_enter Tryz.func96, Tryz.ntmps96
  go_wp2_with (go_at_call 94; (with_reducible refine (ci _).mono ?_); rintro e w2 ⟨rfl, hB2⟩; clear ci)
  go_ret
  exact ⟨rfl, hB1.trans (hB2.mono hB1.size)⟩
theorem octets2_type {Br Bw : Nat} (i xw kd : Int) (hk : ¬ kd = 2) (a bi : Int) (t : ByteArray) (re : Int) (W : World) :
    Calls Tryz.prog 96 #[.int .i64 i, .int .u64 xw, .agg #[.int .i64 kd, .int .i64 a, .int .u64 bi, .string t, .int .u64 re], .pointer (some ⟨Bw, 0, none⟩)] W fun e w' => e = .returned (.int .i64 51) ∧ Below W.heap.size W w' := by
  have hB1 : Below W.heap.size W (W.alloc (.cells #[.int .i64 kd, .int .i64 a, .int .u64 bi, .string t, .int .u64 re] 33)) := (Below.refl _ W).alloc (Nat.le_refl _) _
  have e1 := World.cell?_alloc_new W #[.int .i64 kd, .int .i64 a, .int .u64 bi, .string t, .int .u64 re] 33
  have ci := fun W => within_not kd hk a bi t re (0) 255 W
  clear hk
  go_enter Tryz.func96, Tryz.ntmps96
  go_wp2_with (go_at_call 94; (with_reducible refine (ci _).mono ?_); rintro e w2 ⟨rfl, hB2⟩; clear ci)
  go_ret
  exact ⟨rfl, hB1.trans (hB2.mono hB1.size)⟩
set_option maxRecDepth 100000 in
theorem load_octets {w : Nat} {k2 : Int} {t p n : Nat} {bs : List Nat} (g : HLay W hb sb vc T H u h) (s : Spot H w 8 t p n k2 bs) (i : Nat) (hi : i * 1 + 1 ≤ n) (ha : p % 1 = 0) :
    Calls Tryz.prog 8 #[.pointer (some ⟨hb, 0, none⟩), .int .u64 w, .int .i64 i] W fun e w' => e = .returned (.tuple #[.int .u64 (elI 8 (leN (seg bs (p + i * 1) 1))), .int .i64 0]) ∧ Below W.heap.size W w' := by
  obtain ⟨id, c, hit0, hc, hth, hk0, hcn⟩ := spot_thing s (by decide)
  have hcnt : i < c.cnt := by rw [hcn]; show i < n / 1; omega
  have ce := elem_c g w s.w64 id hit0 c hc hth i (by omega) (by omega)
  unfold ThPost at ce
  rw [hk0] at ce
  have hv : ∀ w4 Br Bw, Below W.heap.size W w4 → PairAt w4 Br Bw hb w 1 → Calls Tryz.prog 95 #[.int .i64 i, .pointer (some ⟨Br, 0, none⟩)] w4 fun e w' => e = .returned (.int .u64 (elI 8 (leN (seg bs (p + i * 1) 1)))) ∧ Below w4.heap.size w4 w' := fun w4 Br Bw hB hP => octets1_c (g.below hB) s hP i hi (by omega)
  have hl8 : bs.length ≤ 8388608 := (g.ok t _ s.cell).2.2
  have hiw : IntKind.i64.wrap (i : Int) = i := by have := s.fit; rw [IntKind.wrap_i64]; omega
  have HV := hid hv
  generalize elI 8 (leN (seg bs (p + i * 1) 1)) = X at *
  generalize c.cl.view = vw at *
  generalize c.bl = bl at *
  generalize c.wl = wl at *
  generalize c.cl.base = ba at *
  generalize c.cl.frm = fr at *
  generalize c.cl.len = ln at *
  clear g s hi ha hv hc hth hk0 hcn hcnt hit0 hl8
  go_enter Tryz.func8, Tryz.ntmps8
  go_upto_region 2 with (go_at_call 24; (with_reducible refine ce.mono ?_); rintro e w2 ⟨ob, bc, ow, wc, rfl, hB2, ho⟩; clear ce ho)
  have hB3 : Below w2.heap.size w2 (w2.alloc (.cells #[.int .i64 8, .bool vw, .int .i64 0, .string ⟨#[]⟩, .slice ob bl bc, .slice ow wl wc, .int .u64 ba, .int .i64 fr, .int .i64 ln] 50)) := (Below.refl _ w2).alloc (Nat.le_refl _) _
  have e3 := World.cell?_alloc_new w2 #[.int .i64 8, .bool vw, .int .i64 0, .string ⟨#[]⟩, .slice ob bl bc, .slice ow wl wc, .int .u64 ba, .int .i64 fr, .int .i64 ln] 50
  have hbel := hB2.trans (hB3.mono hB2.size)
  generalize w2.alloc (.cells #[.int .i64 8, .bool vw, .int .i64 0, .string ⟨#[]⟩, .slice ob bl bc, .slice ow wl wc, .int .u64 ba, .int .i64 fr, .int .i64 ln] 50) = w3 at *
  have cp := pairOf_octets w3 hb w vw ob ow bl bc wl wc ba fr ln
  have HBel := hid hbel
  have pf := fun f g cs ds w => pair_f0 f g cs ds w
  clear hB2 hB3 hbel
  go_wp2_with (first | (go_at_call 26; (with_reducible refine cp.mono ?_); rintro e w4 ⟨Br, Bw, rfl, hB4, hP4⟩; clear cp; (have cv := HV.out w4 Br Bw (HBel.out.trans (hB4.mono HBel.out.size)) hP4)) | (go_at_call 95; (with_reducible refine cv.mono ?_); rintro e w5 ⟨rfl, hB5⟩; clear cv))
  go_ret2
  exact ⟨rfl, (HBel.out.trans (hB4.mono HBel.out.size)).trans (hB5.mono (by have := HBel.out.size; have := hB4.size; omega))⟩
set_option maxRecDepth 100000 in
theorem pairOf_shorts (W : World) (hb w : Nat) (vw : Bool) (ob ow : Option Addr) (bl bc wl wc : Nat) (ba fr ln : Int) : Calls Tryz.prog 26 #[.pointer (some ⟨hb, 0, none⟩), .int .u64 (w : Nat), .agg #[.int .i64 7, .bool vw, .int .i64 0, .string ⟨#[]⟩, .slice ob bl bc, .slice ow wl wc, .int .u64 ba, .int .i64 fr, .int .i64 ln]] W fun e w' => ∃ Br Bw, e = .returned (.agg #[.func (.func 91) #[] #[.pointer (some ⟨Br, 0, none⟩)], .func (.func 93) #[] #[.pointer (some ⟨Bw, 0, none⟩)]]) ∧ Below W.heap.size W w' ∧ PairAt w' Br Bw hb w 2 := by
  have hB1 : Below W.heap.size W (W.alloc (.cells #[.int .i64 7, .bool vw, .int .i64 0, .string ⟨#[]⟩, .slice ob bl bc, .slice ow wl wc, .int .u64 ba, .int .i64 fr, .int .i64 ln] 50)) := (Below.refl _ W).alloc (Nat.le_refl _) _
  have hs1 : (W.alloc (.cells #[.int .i64 7, .bool vw, .int .i64 0, .string ⟨#[]⟩, .slice ob bl bc, .slice ow wl wc, .int .u64 ba, .int .i64 fr, .int .i64 ln] 50)).heap.size = W.heap.size + 1 := World.size_alloc ..
  have e1 := World.cell?_alloc_new W #[.int .i64 7, .bool vw, .int .i64 0, .string ⟨#[]⟩, .slice ob bl bc, .slice ow wl wc, .int .u64 ba, .int .i64 fr, .int .i64 ln] 50 0
  simp only [List.getElem?_toArray, List.getElem?_cons_zero] at e1
  generalize hW1 : W.alloc (.cells #[.int .i64 7, .bool vw, .int .i64 0, .string ⟨#[]⟩, .slice ob bl bc, .slice ow wl wc, .int .u64 ba, .int .i64 fr, .int .i64 ln] 50) = W1 at *
  have hB2 : Below W1.heap.size W1 (W1.alloc (.cells #[.nilFunc, .nilFunc] 65)) := (Below.refl _ W1).alloc (Nat.le_refl _) _
  have hs2 : (W1.alloc (.cells #[.nilFunc, .nilFunc] 65)).heap.size = W.heap.size + 2 := by rw [World.size_alloc, hs1]
  have f2 := World.alloc_heap_new W1 (.cells #[.nilFunc, .nilFunc] 65)
  have e2 := below_cell hB2 e1
  generalize hW2 : W1.alloc (.cells #[.nilFunc, .nilFunc] 65) = W2 at *
  have cr := shorts_c W2 hb w
  have kp : Hid (∀ w4, Below W2.heap.size W2 w4 → w4.heap[W1.heap.size]? = some (.cells #[.nilFunc, .nilFunc] 65) ∧ Below W.heap.size W w4) := by
    show ∀ w4, _
    intro w4 hB4
    have := hB2.size
    exact ⟨(hB4.block _ (by omega)).trans f2, (hB1.trans (hB2.mono hB1.size)).trans (hB4.mono (by have := hB1.size; omega))⟩
  have HS1 : Hid (W.heap.size ≤ W1.heap.size) := hid hB1.size
  clear hB1 hs1 e1 hB2 hs2 f2
  go_enter Tryz.func26, Tryz.ntmps26
  go_upto_region 1 with fail
  clear hW1 hW2
  go_wp2_with (go_at_call 53; (with_reducible refine cr.mono ?_); rintro e w4 ⟨Br, Bw, rfl, hB4, hP4⟩; clear cr; (obtain ⟨f4, hB5⟩ := kp.out w4 hB4); (have eR := fun j => cell_of_row w4 W1.heap.size j _ _ _ f4); (have zR := (fun j => by simp [World.frozen?, f4] : ∀ j, w4.frozen? ⟨W1.heap.size, j, none⟩ = false)); (have FR := hid f4); (have HB := hid hB5); (have HP := hid hP4); clear f4 hB5 hP4 hB4)
  refine bodyPost_ret (pair_ret rfl _ _ W1.heap.size _ _ (0, 0) rfl (two_set FR.out _ _)) rfl ?_
  refine ⟨Br, Bw, rfl, two_below HB.out HS1.out _ _, ?_⟩
  obtain ⟨Bh, Bx, Bd, hR, hr, hw⟩ := HP.out.ex
  have ne : ∀ {B t : Nat} {v : Value}, Boxed w4 B t v → B ≠ W1.heap.size := by
    intro B t v hb e
    subst e
    have := FR.out
    unfold Boxed at hb
    rw [hb] at this
    simp at this
  exact ⟨Bh, Bx, Bd, ⟨box_of (two_far _ _ _ _ _ (ne hR.h)) hR.h, box_of (two_far _ _ _ _ _ (ne hR.x)) hR.x, box_of (two_far _ _ _ _ _ (ne hR.d)) hR.d⟩, box_of (two_far _ _ _ _ _ (ne hr)) hr, box_of (two_far _ _ _ _ _ (ne hw)) hw⟩
theorem shorts1_c {w : Nat} {k2 : Int} {t p n Br Bw : Nat} {bs : List Nat} (g : HLay W hb sb vc T H u h) (s : Spot H w 7 t p n k2 bs) (r : PairAt W Br Bw hb w 2) (i : Nat) (hi : i * 2 + 2 ≤ n) (ha : (p + i * 2) % 2 = 0) :
    Calls Tryz.prog 91 #[.int .i64 i, .pointer (some ⟨Br, 0, none⟩)] W fun e w' => e = .returned (.int .u64 (elI 7 (leN (seg bs (p + i * 2) 2)))) ∧ Below W.heap.size W w' := by
  obtain ⟨Bh, Bx, Bd, hR, hr, hw⟩ := r.ex
  have cr := raw1_c g s hR (.inr (.inl rfl)) i hi ha
  have eI : elI 7 (leN (seg bs (p + i * 2) 2)) = intW (sg16 (leN (seg bs (p + i * 2) 2))) := by unfold elI; rw [if_pos rfl]
  rw [eI]
  generalize leN (seg bs (p + i * 2) 2) = X at *
  have hs16 : -32768 ≤ sg16 X ∧ sg16 X ≤ 32767 := by unfold sg16; omega
  have hcv : IntKind.i16.wrap (X : Int) = sg16 X := wrap_16 X
  have hcw : IntKind.i64.wrap (sg16 X) = sg16 X := by rw [IntKind.wrap_i64]; omega
  have cs := fun w => small_c (sg16 X) (by unfold smallB; rw [decide_eq_true_eq]; omega) w
  have x1 := hr.cell
  generalize intW (sg16 X) = IW at *
  generalize sg16 X = S16 at *
  clear g s r hR hr hw hi ha eI hs16
  go_enter Tryz.func91, Tryz.ntmps91
  go_wp2_with (first | (go_at_call 120; (with_reducible refine cr.mono ?_); rintro e w2 ⟨rfl, hB2⟩; clear cr) | (go_at_call 92; (with_reducible refine (cs _).mono ?_); rintro e w' ⟨rfl, hw⟩; (have hw' := hw.symm); subst hw'; clear hw))
  go_ret
  exact ⟨rfl, hB2⟩
theorem shorts2_c {w : Nat} {k2 : Int} {t p n Br Bw : Nat} {bs : List Nat} (g : HLay W hb sb vc T H u h) (s : Spot H w 7 t p n k2 bs) (r : PairAt W Br Bw hb w 2) (i : Nat) (hi : i * 2 + 2 ≤ n) (ha : (p + i * 2) % 2 = 0) (xw : Int) (j : Int) (hj : -32768 ≤ j ∧ j ≤ 32767) :
    Calls Tryz.prog 93 #[.int .i64 i, .int .u64 xw, .agg #[.int .i64 2, .int .i64 j, .int .u64 0, .string ⟨#[]⟩, .int .u64 0], .pointer (some ⟨Bw, 0, none⟩)] W fun e w' => e = .returned (.int .i64 0) ∧ Upd T W w' ∧ HLay w' hb sb vc T (H.set t (some (.buf k2 (saved bs (p + i * 2) (j % 18446744073709551616).toNat 2)))) u h := by
  have hB1 : Below W.heap.size W (W.alloc (.cells #[.int .i64 2, .int .i64 j, .int .u64 0, .string ⟨#[]⟩, .int .u64 0] 33)) := (Below.refl _ W).alloc (Nat.le_refl _) _
  have e1 := World.cell?_alloc_new W #[.int .i64 2, .int .i64 j, .int .u64 0, .string ⟨#[]⟩, .int .u64 0] 33
  have ci := fun W => within_c j (-32768) 32767 W
  rw [if_pos hj] at ci
  have hwu : IntKind.u64.wrap j = (((j % 18446744073709551616).toNat : Nat) : Int) := by rw [IntKind.wrap_u64]; omega
  have hx64 : (j % 18446744073709551616).toNat < 18446744073709551616 := by omega
  have hv : ∀ w2, Below W.heap.size W w2 → (∃ Bh Bx Bd, w2.cell? ⟨Bw, 0, none⟩ = some (.func (.func 122) #[] #[.pointer (some ⟨Bh, 0, none⟩), .pointer (some ⟨Bx, 0, none⟩), .pointer (some ⟨Bd, 0, none⟩)]) ∧ Calls Tryz.prog 122 #[.int .i64 i, .int .u64 (((j % 18446744073709551616).toNat : Nat) : Int), .pointer (some ⟨Bh, 0, none⟩), .pointer (some ⟨Bx, 0, none⟩), .pointer (some ⟨Bd, 0, none⟩)] w2 fun e w' => e = .returned (.int .i64 0) ∧ Hid (Upd T W w' ∧ HLay w' hb sb vc T (H.set t (some (.buf k2 (saved bs (p + i * 2) (j % 18446744073709551616).toNat 2)))) u h)) := by
    intro w2 hB2
    obtain ⟨Bh, Bx, Bd, hR, hr, hw⟩ := (r.below hB2).ex
    refine ⟨Bh, Bx, Bd, hw.cell, (raw2_c (g.below hB2) s hR (.inr (.inl rfl)) i hi ha _ hx64).mono ?_⟩
    rintro e w' ⟨rfl, hU, hL⟩
    exact ⟨rfl, (Upd.of_below hB2).trans' hU, hL⟩
  generalize (H.set t (some (.buf k2 (saved bs (p + i * 2) (j % 18446744073709551616).toNat 2)))) = HH at *
  generalize (((j % 18446744073709551616).toNat : Nat) : Int) = XX at *
  have HV := hid hv
  have HB1 := hid hB1
  clear g s r hi ha hx64 hv hB1
  go_enter Tryz.func93, Tryz.ntmps93
  go_upto_region 4 with (go_at_call 94; (with_reducible refine (ci _).mono ?_); rintro e w2 ⟨rfl, hB2⟩; clear ci)
  obtain ⟨Bh, Bx, Bd, x1, cv⟩ := HV.out w2 (HB1.out.trans (hB2.mono HB1.out.size))
  go_wp2_with (go_at_call 122; (with_reducible refine cv.mono ?_); rintro e w3 ⟨rfl, hf⟩; clear cv)
  go_ret
  exact ⟨rfl, hf.out.1, hf.out.2⟩
theorem shorts2_range {Br Bw : Nat} (i xw j : Int) (hj : ¬ (-32768 ≤ j ∧ j ≤ 32767)) (W : World) :
    Calls Tryz.prog 93 #[.int .i64 i, .int .u64 xw, .agg #[.int .i64 2, .int .i64 j, .int .u64 0, .string ⟨#[]⟩, .int .u64 0], .pointer (some ⟨Bw, 0, none⟩)] W fun e w' => e = .returned (.int .i64 13) ∧ Below W.heap.size W w' := by
  have hB1 : Below W.heap.size W (W.alloc (.cells #[.int .i64 2, .int .i64 j, .int .u64 0, .string ⟨#[]⟩, .int .u64 0] 33)) := (Below.refl _ W).alloc (Nat.le_refl _) _
  have e1 := World.cell?_alloc_new W #[.int .i64 2, .int .i64 j, .int .u64 0, .string ⟨#[]⟩, .int .u64 0] 33
  have ci := fun W => within_c j (-32768) 32767 W
  rw [if_neg hj] at ci
  go_enter Tryz.func93, Tryz.ntmps93
  go_wp2_with (go_at_call 94; (with_reducible refine (ci _).mono ?_); rintro e w2 ⟨rfl, hB2⟩; clear ci)
  go_ret
  exact ⟨rfl, hB1.trans (hB2.mono hB1.size)⟩
theorem shorts2_type {Br Bw : Nat} (i xw kd : Int) (hk : ¬ kd = 2) (a bi : Int) (t : ByteArray) (re : Int) (W : World) :
    Calls Tryz.prog 93 #[.int .i64 i, .int .u64 xw, .agg #[.int .i64 kd, .int .i64 a, .int .u64 bi, .string t, .int .u64 re], .pointer (some ⟨Bw, 0, none⟩)] W fun e w' => e = .returned (.int .i64 51) ∧ Below W.heap.size W w' := by
  have hB1 : Below W.heap.size W (W.alloc (.cells #[.int .i64 kd, .int .i64 a, .int .u64 bi, .string t, .int .u64 re] 33)) := (Below.refl _ W).alloc (Nat.le_refl _) _
  have e1 := World.cell?_alloc_new W #[.int .i64 kd, .int .i64 a, .int .u64 bi, .string t, .int .u64 re] 33
  have ci := fun W => within_not kd hk a bi t re (-32768) 32767 W
  clear hk
  go_enter Tryz.func93, Tryz.ntmps93
  go_wp2_with (go_at_call 94; (with_reducible refine (ci _).mono ?_); rintro e w2 ⟨rfl, hB2⟩; clear ci)
  go_ret
  exact ⟨rfl, hB1.trans (hB2.mono hB1.size)⟩
set_option maxRecDepth 100000 in
theorem load_shorts {w : Nat} {k2 : Int} {t p n : Nat} {bs : List Nat} (g : HLay W hb sb vc T H u h) (s : Spot H w 7 t p n k2 bs) (i : Nat) (hi : i * 2 + 2 ≤ n) (ha : p % 2 = 0) :
    Calls Tryz.prog 8 #[.pointer (some ⟨hb, 0, none⟩), .int .u64 w, .int .i64 i] W fun e w' => e = .returned (.tuple #[.int .u64 (elI 7 (leN (seg bs (p + i * 2) 2))), .int .i64 0]) ∧ Below W.heap.size W w' := by
  obtain ⟨id, c, hit0, hc, hth, hk0, hcn⟩ := spot_thing s (by decide)
  have hcnt : i < c.cnt := by rw [hcn]; show i < n / 2; omega
  have ce := elem_c g w s.w64 id hit0 c hc hth i (by omega) (by omega)
  unfold ThPost at ce
  rw [hk0] at ce
  have hv : ∀ w4 Br Bw, Below W.heap.size W w4 → PairAt w4 Br Bw hb w 2 → Calls Tryz.prog 91 #[.int .i64 i, .pointer (some ⟨Br, 0, none⟩)] w4 fun e w' => e = .returned (.int .u64 (elI 7 (leN (seg bs (p + i * 2) 2)))) ∧ Below w4.heap.size w4 w' := fun w4 Br Bw hB hP => shorts1_c (g.below hB) s hP i hi (by omega)
  have hl8 : bs.length ≤ 8388608 := (g.ok t _ s.cell).2.2
  have hiw : IntKind.i64.wrap (i : Int) = i := by have := s.fit; rw [IntKind.wrap_i64]; omega
  have HV := hid hv
  generalize elI 7 (leN (seg bs (p + i * 2) 2)) = X at *
  generalize c.cl.view = vw at *
  generalize c.bl = bl at *
  generalize c.wl = wl at *
  generalize c.cl.base = ba at *
  generalize c.cl.frm = fr at *
  generalize c.cl.len = ln at *
  clear g s hi ha hv hc hth hk0 hcn hcnt hit0 hl8
  go_enter Tryz.func8, Tryz.ntmps8
  go_upto_region 2 with (go_at_call 24; (with_reducible refine ce.mono ?_); rintro e w2 ⟨ob, bc, ow, wc, rfl, hB2, ho⟩; clear ce ho)
  have hB3 : Below w2.heap.size w2 (w2.alloc (.cells #[.int .i64 7, .bool vw, .int .i64 0, .string ⟨#[]⟩, .slice ob bl bc, .slice ow wl wc, .int .u64 ba, .int .i64 fr, .int .i64 ln] 50)) := (Below.refl _ w2).alloc (Nat.le_refl _) _
  have e3 := World.cell?_alloc_new w2 #[.int .i64 7, .bool vw, .int .i64 0, .string ⟨#[]⟩, .slice ob bl bc, .slice ow wl wc, .int .u64 ba, .int .i64 fr, .int .i64 ln] 50
  have hbel := hB2.trans (hB3.mono hB2.size)
  generalize w2.alloc (.cells #[.int .i64 7, .bool vw, .int .i64 0, .string ⟨#[]⟩, .slice ob bl bc, .slice ow wl wc, .int .u64 ba, .int .i64 fr, .int .i64 ln] 50) = w3 at *
  have cp := pairOf_shorts w3 hb w vw ob ow bl bc wl wc ba fr ln
  have HBel := hid hbel
  have pf := fun f g cs ds w => pair_f0 f g cs ds w
  clear hB2 hB3 hbel
  go_wp2_with (first | (go_at_call 26; (with_reducible refine cp.mono ?_); rintro e w4 ⟨Br, Bw, rfl, hB4, hP4⟩; clear cp; (have cv := HV.out w4 Br Bw (HBel.out.trans (hB4.mono HBel.out.size)) hP4)) | (go_at_call 91; (with_reducible refine cv.mono ?_); rintro e w5 ⟨rfl, hB5⟩; clear cv))
  go_ret2
  exact ⟨rfl, (HBel.out.trans (hB4.mono HBel.out.size)).trans (hB5.mono (by have := HBel.out.size; have := hB4.size; omega))⟩
end
end Go.Proofs.YtikgicepdalfpaaGreat.W
/- Package buf: Load, of doubles and narrows. -/
namespace Go.Proofs.YtikgicepdalfpaaGreat.W
open Go.ChangeShapes Go.WideShapes Go.RowKit Go.Shelf
set_option linter.unusedVariables false
section
variable {W W' : World} {hb sb : Nat} {vc : Value} {T : Nat → Prop} {H : List (Option Hc)} {u h : Nat}
set_option maxRecDepth 100000 in
theorem pairOf_doubles (W : World) (hb w : Nat) (vw : Bool) (ob ow : Option Addr) (bl bc wl wc : Nat) (ba fr ln : Int) : Calls Tryz.prog 26 #[.pointer (some ⟨hb, 0, none⟩), .int .u64 (w : Nat), .agg #[.int .i64 5, .bool vw, .int .i64 0, .string ⟨#[]⟩, .slice ob bl bc, .slice ow wl wc, .int .u64 ba, .int .i64 fr, .int .i64 ln]] W fun e w' => ∃ Br Bw, e = .returned (.agg #[.func (.func 84) #[] #[.pointer (some ⟨Br, 0, none⟩)], .func (.func 85) #[] #[.pointer (some ⟨Bw, 0, none⟩)]]) ∧ Below W.heap.size W w' ∧ PairAt w' Br Bw hb w 8 := by
  have hB1 : Below W.heap.size W (W.alloc (.cells #[.int .i64 5, .bool vw, .int .i64 0, .string ⟨#[]⟩, .slice ob bl bc, .slice ow wl wc, .int .u64 ba, .int .i64 fr, .int .i64 ln] 50)) := (Below.refl _ W).alloc (Nat.le_refl _) _
  have hs1 : (W.alloc (.cells #[.int .i64 5, .bool vw, .int .i64 0, .string ⟨#[]⟩, .slice ob bl bc, .slice ow wl wc, .int .u64 ba, .int .i64 fr, .int .i64 ln] 50)).heap.size = W.heap.size + 1 := World.size_alloc ..
  have e1 := World.cell?_alloc_new W #[.int .i64 5, .bool vw, .int .i64 0, .string ⟨#[]⟩, .slice ob bl bc, .slice ow wl wc, .int .u64 ba, .int .i64 fr, .int .i64 ln] 50 0
  simp only [List.getElem?_toArray, List.getElem?_cons_zero] at e1
  generalize hW1 : W.alloc (.cells #[.int .i64 5, .bool vw, .int .i64 0, .string ⟨#[]⟩, .slice ob bl bc, .slice ow wl wc, .int .u64 ba, .int .i64 fr, .int .i64 ln] 50) = W1 at *
  have hB2 : Below W1.heap.size W1 (W1.alloc (.cells #[.nilFunc, .nilFunc] 65)) := (Below.refl _ W1).alloc (Nat.le_refl _) _
  have hs2 : (W1.alloc (.cells #[.nilFunc, .nilFunc] 65)).heap.size = W.heap.size + 2 := by rw [World.size_alloc, hs1]
  have f2 := World.alloc_heap_new W1 (.cells #[.nilFunc, .nilFunc] 65)
  have e2 := below_cell hB2 e1
  generalize hW2 : W1.alloc (.cells #[.nilFunc, .nilFunc] 65) = W2 at *
  have cr := doubles_c W2 hb w
  have kp : Hid (∀ w4, Below W2.heap.size W2 w4 → w4.heap[W1.heap.size]? = some (.cells #[.nilFunc, .nilFunc] 65) ∧ Below W.heap.size W w4) := by
    show ∀ w4, _
    intro w4 hB4
    have := hB2.size
    exact ⟨(hB4.block _ (by omega)).trans f2, (hB1.trans (hB2.mono hB1.size)).trans (hB4.mono (by have := hB1.size; omega))⟩
  have HS1 : Hid (W.heap.size ≤ W1.heap.size) := hid hB1.size
  clear hB1 hs1 e1 hB2 hs2 f2
  go_enter Tryz.func26, Tryz.ntmps26
  go_upto_region 1 with fail
  clear hW1 hW2
  go_wp2_with (go_at_call 51; (with_reducible refine cr.mono ?_); rintro e w4 ⟨Br, Bw, rfl, hB4, hP4⟩; clear cr; (obtain ⟨f4, hB5⟩ := kp.out w4 hB4); (have eR := fun j => cell_of_row w4 W1.heap.size j _ _ _ f4); (have zR := (fun j => by simp [World.frozen?, f4] : ∀ j, w4.frozen? ⟨W1.heap.size, j, none⟩ = false)); (have FR := hid f4); (have HB := hid hB5); (have HP := hid hP4); clear f4 hB5 hP4 hB4)
  refine bodyPost_ret (pair_ret rfl _ _ W1.heap.size _ _ (0, 0) rfl (two_set FR.out _ _)) rfl ?_
  refine ⟨Br, Bw, rfl, two_below HB.out HS1.out _ _, ?_⟩
  obtain ⟨Bh, Bx, Bd, hR, hr, hw⟩ := HP.out.ex
  have ne : ∀ {B t : Nat} {v : Value}, Boxed w4 B t v → B ≠ W1.heap.size := by
    intro B t v hb e
    subst e
    have := FR.out
    unfold Boxed at hb
    rw [hb] at this
    simp at this
  exact ⟨Bh, Bx, Bd, ⟨box_of (two_far _ _ _ _ _ (ne hR.h)) hR.h, box_of (two_far _ _ _ _ _ (ne hR.x)) hR.x, box_of (two_far _ _ _ _ _ (ne hR.d)) hR.d⟩, box_of (two_far _ _ _ _ _ (ne hr)) hr, box_of (two_far _ _ _ _ _ (ne hw)) hw⟩
set_option maxRecDepth 100000 in
theorem pairOf_narrows (W : World) (hb w : Nat) (vw : Bool) (ob ow : Option Addr) (bl bc wl wc : Nat) (ba fr ln : Int) : Calls Tryz.prog 26 #[.pointer (some ⟨hb, 0, none⟩), .int .u64 (w : Nat), .agg #[.int .i64 6, .bool vw, .int .i64 0, .string ⟨#[]⟩, .slice ob bl bc, .slice ow wl wc, .int .u64 ba, .int .i64 fr, .int .i64 ln]] W fun e w' => ∃ Br Bw, e = .returned (.agg #[.func (.func 87) #[] #[.pointer (some ⟨Br, 0, none⟩)], .func (.func 89) #[] #[.pointer (some ⟨Bw, 0, none⟩)]]) ∧ Below W.heap.size W w' ∧ PairAt w' Br Bw hb w 4 := by
  have hB1 : Below W.heap.size W (W.alloc (.cells #[.int .i64 6, .bool vw, .int .i64 0, .string ⟨#[]⟩, .slice ob bl bc, .slice ow wl wc, .int .u64 ba, .int .i64 fr, .int .i64 ln] 50)) := (Below.refl _ W).alloc (Nat.le_refl _) _
  have hs1 : (W.alloc (.cells #[.int .i64 6, .bool vw, .int .i64 0, .string ⟨#[]⟩, .slice ob bl bc, .slice ow wl wc, .int .u64 ba, .int .i64 fr, .int .i64 ln] 50)).heap.size = W.heap.size + 1 := World.size_alloc ..
  have e1 := World.cell?_alloc_new W #[.int .i64 6, .bool vw, .int .i64 0, .string ⟨#[]⟩, .slice ob bl bc, .slice ow wl wc, .int .u64 ba, .int .i64 fr, .int .i64 ln] 50 0
  simp only [List.getElem?_toArray, List.getElem?_cons_zero] at e1
  generalize hW1 : W.alloc (.cells #[.int .i64 6, .bool vw, .int .i64 0, .string ⟨#[]⟩, .slice ob bl bc, .slice ow wl wc, .int .u64 ba, .int .i64 fr, .int .i64 ln] 50) = W1 at *
  have hB2 : Below W1.heap.size W1 (W1.alloc (.cells #[.nilFunc, .nilFunc] 65)) := (Below.refl _ W1).alloc (Nat.le_refl _) _
  have hs2 : (W1.alloc (.cells #[.nilFunc, .nilFunc] 65)).heap.size = W.heap.size + 2 := by rw [World.size_alloc, hs1]
  have f2 := World.alloc_heap_new W1 (.cells #[.nilFunc, .nilFunc] 65)
  have e2 := below_cell hB2 e1
  generalize hW2 : W1.alloc (.cells #[.nilFunc, .nilFunc] 65) = W2 at *
  have cr := narrows_c W2 hb w
  have kp : Hid (∀ w4, Below W2.heap.size W2 w4 → w4.heap[W1.heap.size]? = some (.cells #[.nilFunc, .nilFunc] 65) ∧ Below W.heap.size W w4) := by
    show ∀ w4, _
    intro w4 hB4
    have := hB2.size
    exact ⟨(hB4.block _ (by omega)).trans f2, (hB1.trans (hB2.mono hB1.size)).trans (hB4.mono (by have := hB1.size; omega))⟩
  have HS1 : Hid (W.heap.size ≤ W1.heap.size) := hid hB1.size
  clear hB1 hs1 e1 hB2 hs2 f2
  go_enter Tryz.func26, Tryz.ntmps26
  go_upto_region 1 with fail
  clear hW1 hW2
  go_wp2_with (go_at_call 52; (with_reducible refine cr.mono ?_); rintro e w4 ⟨Br, Bw, rfl, hB4, hP4⟩; clear cr; (obtain ⟨f4, hB5⟩ := kp.out w4 hB4); (have eR := fun j => cell_of_row w4 W1.heap.size j _ _ _ f4); (have zR := (fun j => by simp [World.frozen?, f4] : ∀ j, w4.frozen? ⟨W1.heap.size, j, none⟩ = false)); (have FR := hid f4); (have HB := hid hB5); (have HP := hid hP4); clear f4 hB5 hP4 hB4)
  refine bodyPost_ret (pair_ret rfl _ _ W1.heap.size _ _ (0, 0) rfl (two_set FR.out _ _)) rfl ?_
  refine ⟨Br, Bw, rfl, two_below HB.out HS1.out _ _, ?_⟩
  obtain ⟨Bh, Bx, Bd, hR, hr, hw⟩ := HP.out.ex
  have ne : ∀ {B t : Nat} {v : Value}, Boxed w4 B t v → B ≠ W1.heap.size := by
    intro B t v hb e
    subst e
    have := FR.out
    unfold Boxed at hb
    rw [hb] at this
    simp at this
  exact ⟨Bh, Bx, Bd, ⟨box_of (two_far _ _ _ _ _ (ne hR.h)) hR.h, box_of (two_far _ _ _ _ _ (ne hR.x)) hR.x, box_of (two_far _ _ _ _ _ (ne hR.d)) hR.d⟩, box_of (two_far _ _ _ _ _ (ne hr)) hr, box_of (two_far _ _ _ _ _ (ne hw)) hw⟩
theorem doubles1_c {w : Nat} {k2 : Int} {t p n Br Bw : Nat} {bs : List Nat} (g : HLay W hb sb vc T H u h) (s : Spot H w 5 t p n k2 bs) (r : PairAt W Br Bw hb w 8) (i : Nat) (hi : i * 8 + 8 ≤ n) (ha : (p + i * 8) % 8 = 0) :
    Calls Tryz.prog 84 #[.int .i64 i, .pointer (some ⟨Br, 0, none⟩)] W fun e w' => e = .returned (.int .u64 (fltW ((leN (seg bs (p + i * 8) 8) : Nat) : Int))) ∧ Below W.heap.size W w' := by
  obtain ⟨Bh, Bx, Bd, hR, hr, hw⟩ := r.ex
  have cr := raw1_c g s hR (.inr (.inr (.inr rfl))) i hi ha
  have hok := g.ok t _ s.cell
  have hN : leN (seg bs (p + i * 8) 8) < 18446744073709551616 := by
    have h1 := leN_lt (seg bs (p + i * 8) 8) (fun x hx => hok.2.1 x (List.mem_of_mem_drop (List.mem_of_mem_take hx)))
    have h2 : (seg bs (p + i * 8) 8).length ≤ 8 := by unfold seg; rw [List.length_take]; omega
    have h3 : 256 ^ (seg bs (p + i * 8) 8).length ≤ 256 ^ 8 := Nat.pow_le_pow_right (by omega) h2
    omega
  have cs := fun w => fromFloat_c ((leN (seg bs (p + i * 8) 8) : Nat) : Int) (by omega) (by omega) w
  have x1 := hr.cell
  generalize leN (seg bs (p + i * 8) 8) = X at *
  generalize fltW (X : Int) = IW at *
  clear g s r hR hr hw hok hi ha hN
  go_enter Tryz.func84, Tryz.ntmps84
  go_wp2_with (first | (go_at_call 120; (with_reducible refine cr.mono ?_); rintro e w2 ⟨rfl, hB2⟩; clear cr) | (go_at_call 21; (with_reducible refine (cs _).mono ?_); rintro e w' ⟨rfl, hw⟩; (have hw' := hw.symm); subst hw'; clear hw))
  go_ret
  exact ⟨rfl, hB2⟩
theorem narrows1_c {w : Nat} {k2 : Int} {t p n Br Bw : Nat} {bs : List Nat} (g : HLay W hb sb vc T H u h) (s : Spot H w 6 t p n k2 bs) (r : PairAt W Br Bw hb w 4) (i : Nat) (hi : i * 4 + 4 ≤ n) (ha : (p + i * 4) % 4 = 0) (y : Int) (hwi : ∀ w, Calls Tryz.prog 88 #[.int .u32 ((leN (seg bs (p + i * 4) 4) : Nat) : Int)] w fun e w' => e = .returned (.int .u64 y) ∧ Below w.heap.size w w') :
    Calls Tryz.prog 87 #[.int .i64 i, .pointer (some ⟨Br, 0, none⟩)] W fun e w' => e = .returned (.int .u64 y) ∧ Below W.heap.size W w' := by
  obtain ⟨Bh, Bx, Bd, hR, hr, hw⟩ := r.ex
  have cr := raw1_c g s hR (.inr (.inr (.inl rfl))) i hi ha
  have hok := g.ok t _ s.cell
  have hN : leN (seg bs (p + i * 4) 4) < 4294967296 := by
    have h1 := leN_lt (seg bs (p + i * 4) 4) (fun x hx => hok.2.1 x (List.mem_of_mem_drop (List.mem_of_mem_take hx)))
    have h2 : (seg bs (p + i * 4) 4).length ≤ 4 := by unfold seg; rw [List.length_take]; omega
    have h3 : 256 ^ (seg bs (p + i * 4) 4).length ≤ 256 ^ 4 := Nat.pow_le_pow_right (by omega) h2
    omega
  have hcv : IntKind.u32.wrap ((leN (seg bs (p + i * 4) 4) : Nat) : Int) = ((leN (seg bs (p + i * 4) 4) : Nat) : Int) := by
    have e : ∀ z : Int, 0 ≤ z → z < 4294967296 → IntKind.u32.wrap z = z := by
      intro z h0 h1
      unfold IntKind.wrap
      simp [IntKind.bits, IntKind.signed]
      omega
    exact e _ (by omega) (by omega)
  have x1 := hr.cell
  generalize leN (seg bs (p + i * 4) 4) = X at *
  clear g s r hR hr hw hok hi ha hN
  go_enter Tryz.func87, Tryz.ntmps87
  go_wp2_with (first | (go_at_call 120; (with_reducible refine cr.mono ?_); rintro e w2 ⟨rfl, hB2⟩; clear cr) | (go_at_call 88; (with_reducible refine (hwi _).mono ?_); rintro e w3 ⟨rfl, hB3⟩; clear hwi))
  go_ret
  exact ⟨rfl, hB2.trans (hB3.mono hB2.size)⟩
set_option maxRecDepth 100000 in
theorem load_doubles {w : Nat} {k2 : Int} {t p n : Nat} {bs : List Nat} (g : HLay W hb sb vc T H u h) (s : Spot H w 5 t p n k2 bs) (i : Nat) (hi : i * 8 + 8 ≤ n) (ha : p % 8 = 0) :
    Calls Tryz.prog 8 #[.pointer (some ⟨hb, 0, none⟩), .int .u64 w, .int .i64 i] W fun e w' => e = .returned (.tuple #[.int .u64 (fltW ((leN (seg bs (p + i * 8) 8) : Nat) : Int)), .int .i64 0]) ∧ Below W.heap.size W w' := by
  obtain ⟨id, c, hit0, hc, hth, hk0, hcn⟩ := spot_thing s (by decide)
  have hcnt : i < c.cnt := by rw [hcn]; show i < n / 8; omega
  have ce := elem_c g w s.w64 id hit0 c hc hth i (by omega) (by omega)
  unfold ThPost at ce
  rw [hk0] at ce
  have hv : ∀ w4 Br Bw, Below W.heap.size W w4 → PairAt w4 Br Bw hb w 8 → Calls Tryz.prog 84 #[.int .i64 i, .pointer (some ⟨Br, 0, none⟩)] w4 fun e w' => e = .returned (.int .u64 (fltW ((leN (seg bs (p + i * 8) 8) : Nat) : Int))) ∧ Below w4.heap.size w4 w' := fun w4 Br Bw hB hP => doubles1_c (g.below hB) s hP i hi (by omega)
  have hl8 : bs.length ≤ 8388608 := (g.ok t _ s.cell).2.2
  have hiw : IntKind.i64.wrap (i : Int) = i := by have := s.fit; rw [IntKind.wrap_i64]; omega
  have HV := hid hv
  generalize fltW ((leN (seg bs (p + i * 8) 8) : Nat) : Int) = X at *
  generalize c.cl.view = vw at *
  generalize c.bl = bl at *
  generalize c.wl = wl at *
  generalize c.cl.base = ba at *
  generalize c.cl.frm = fr at *
  generalize c.cl.len = ln at *
  clear g s hi ha hv hc hth hk0 hcn hcnt hit0 hl8
  go_enter Tryz.func8, Tryz.ntmps8
  go_upto_region 2 with (go_at_call 24; (with_reducible refine ce.mono ?_); rintro e w2 ⟨ob, bc, ow, wc, rfl, hB2, ho⟩; clear ce ho)
  have hB3 : Below w2.heap.size w2 (w2.alloc (.cells #[.int .i64 5, .bool vw, .int .i64 0, .string ⟨#[]⟩, .slice ob bl bc, .slice ow wl wc, .int .u64 ba, .int .i64 fr, .int .i64 ln] 50)) := (Below.refl _ w2).alloc (Nat.le_refl _) _
  have e3 := World.cell?_alloc_new w2 #[.int .i64 5, .bool vw, .int .i64 0, .string ⟨#[]⟩, .slice ob bl bc, .slice ow wl wc, .int .u64 ba, .int .i64 fr, .int .i64 ln] 50
  have hbel := hB2.trans (hB3.mono hB2.size)
  generalize w2.alloc (.cells #[.int .i64 5, .bool vw, .int .i64 0, .string ⟨#[]⟩, .slice ob bl bc, .slice ow wl wc, .int .u64 ba, .int .i64 fr, .int .i64 ln] 50) = w3 at *
  have cp := pairOf_doubles w3 hb w vw ob ow bl bc wl wc ba fr ln
  have HBel := hid hbel
  have pf := fun f g cs ds w => pair_f0 f g cs ds w
  clear hB2 hB3 hbel
  go_wp2_with (first | (go_at_call 26; (with_reducible refine cp.mono ?_); rintro e w4 ⟨Br, Bw, rfl, hB4, hP4⟩; clear cp; (have cv := HV.out w4 Br Bw (HBel.out.trans (hB4.mono HBel.out.size)) hP4)) | (go_at_call 84; (with_reducible refine cv.mono ?_); rintro e w5 ⟨rfl, hB5⟩; clear cv))
  go_ret2
  exact ⟨rfl, (HBel.out.trans (hB4.mono HBel.out.size)).trans (hB5.mono (by have := HBel.out.size; have := hB4.size; omega))⟩
set_option maxRecDepth 100000 in
theorem load_narrows {w : Nat} {k2 : Int} {t p n : Nat} {bs : List Nat} (g : HLay W hb sb vc T H u h) (s : Spot H w 6 t p n k2 bs) (i : Nat) (hi : i * 4 + 4 ≤ n) (ha : p % 4 = 0) (y : Int) (hwi : ∀ w, Calls Tryz.prog 88 #[.int .u32 ((leN (seg bs (p + i * 4) 4) : Nat) : Int)] w fun e w' => e = .returned (.int .u64 y) ∧ Below w.heap.size w w') :
    Calls Tryz.prog 8 #[.pointer (some ⟨hb, 0, none⟩), .int .u64 w, .int .i64 i] W fun e w' => e = .returned (.tuple #[.int .u64 y, .int .i64 0]) ∧ Below W.heap.size W w' := by
  obtain ⟨id, c, hit0, hc, hth, hk0, hcn⟩ := spot_thing s (by decide)
  have hcnt : i < c.cnt := by rw [hcn]; show i < n / 4; omega
  have ce := elem_c g w s.w64 id hit0 c hc hth i (by omega) (by omega)
  unfold ThPost at ce
  rw [hk0] at ce
  have hv : ∀ w4 Br Bw, Below W.heap.size W w4 → PairAt w4 Br Bw hb w 4 → Calls Tryz.prog 87 #[.int .i64 i, .pointer (some ⟨Br, 0, none⟩)] w4 fun e w' => e = .returned (.int .u64 y) ∧ Below w4.heap.size w4 w' := fun w4 Br Bw hB hP => narrows1_c (g.below hB) s hP i hi (by omega) y hwi
  have hl8 : bs.length ≤ 8388608 := (g.ok t _ s.cell).2.2
  have hiw : IntKind.i64.wrap (i : Int) = i := by have := s.fit; rw [IntKind.wrap_i64]; omega
  have HV := hid hv
  clear hwi
  generalize c.cl.view = vw at *
  generalize c.bl = bl at *
  generalize c.wl = wl at *
  generalize c.cl.base = ba at *
  generalize c.cl.frm = fr at *
  generalize c.cl.len = ln at *
  clear g s hi ha hv hc hth hk0 hcn hcnt hit0 hl8
  go_enter Tryz.func8, Tryz.ntmps8
  go_upto_region 2 with (go_at_call 24; (with_reducible refine ce.mono ?_); rintro e w2 ⟨ob, bc, ow, wc, rfl, hB2, ho⟩; clear ce ho)
  have hB3 : Below w2.heap.size w2 (w2.alloc (.cells #[.int .i64 6, .bool vw, .int .i64 0, .string ⟨#[]⟩, .slice ob bl bc, .slice ow wl wc, .int .u64 ba, .int .i64 fr, .int .i64 ln] 50)) := (Below.refl _ w2).alloc (Nat.le_refl _) _
  have e3 := World.cell?_alloc_new w2 #[.int .i64 6, .bool vw, .int .i64 0, .string ⟨#[]⟩, .slice ob bl bc, .slice ow wl wc, .int .u64 ba, .int .i64 fr, .int .i64 ln] 50
  have hbel := hB2.trans (hB3.mono hB2.size)
  generalize w2.alloc (.cells #[.int .i64 6, .bool vw, .int .i64 0, .string ⟨#[]⟩, .slice ob bl bc, .slice ow wl wc, .int .u64 ba, .int .i64 fr, .int .i64 ln] 50) = w3 at *
  have cp := pairOf_narrows w3 hb w vw ob ow bl bc wl wc ba fr ln
  have HBel := hid hbel
  have pf := fun f g cs ds w => pair_f0 f g cs ds w
  clear hB2 hB3 hbel
  go_wp2_with (first | (go_at_call 26; (with_reducible refine cp.mono ?_); rintro e w4 ⟨Br, Bw, rfl, hB4, hP4⟩; clear cp; (have cv := HV.out w4 Br Bw (HBel.out.trans (hB4.mono HBel.out.size)) hP4)) | (go_at_call 87; (with_reducible refine cv.mono ?_); rintro e w5 ⟨rfl, hB5⟩; clear cv))
  go_ret2
  exact ⟨rfl, (HBel.out.trans (hB4.mono HBel.out.size)).trans (hB5.mono (by have := HBel.out.size; have := hB4.size; omega))⟩
end
end Go.Proofs.YtikgicepdalfpaaGreat.W
/- Package buf: Store, of octets and shorts; Load and Store beyond the end. -/
namespace Go.Proofs.YtikgicepdalfpaaGreat.W
open Go.ChangeShapes Go.WideShapes Go.RowKit Go.Shelf
set_option linter.unusedVariables false
section
variable {W W' : World} {hb sb : Nat} {vc : Value} {T : Nat → Prop} {H : List (Option Hc)} {u h : Nat}
set_option maxRecDepth 100000 in
set_option maxHeartbeats 1000000 in
/-- Store, over what Unbox answers and what the pair does -/
theorem store_octets {w : Nat} {k2 : Int} {t p n : Nat} {bs : List Nat} (g : HLay W hb sb vc T H u h) (s : Spot H w 8 t p n k2 bs) (i : Nat) (hi : i * 1 + 1 ≤ n) (xw vk va vb vr : Int) (vt : ByteArray)
    (hun : ∀ w2, Below W.heap.size W w2 → Calls Tryz.prog 25 #[.pointer (some ⟨hb, 0, none⟩), .int .u64 xw] w2 fun e w' => e = .returned (.tuple #[.agg #[.int .i64 vk, .int .i64 va, .int .u64 vb, .string vt, .int .u64 vr], .int .i64 0]) ∧ Below w2.heap.size w2 w')
    (code : Int) (P : World → Prop) (hcl : ∀ w4 Br Bw, Below W.heap.size W w4 → PairAt w4 Br Bw hb w 1 → Calls Tryz.prog 96 #[.int .i64 i, .int .u64 xw, .agg #[.int .i64 vk, .int .i64 va, .int .u64 vb, .string vt, .int .u64 vr], .pointer (some ⟨Bw, 0, none⟩)] w4 fun e w' => e = .returned (.int .i64 code) ∧ Upd T w4 w' ∧ P w') :
    Calls Tryz.prog 7 #[.pointer (some ⟨hb, 0, none⟩), .int .u64 w, .int .i64 i, .int .u64 xw] W fun e w' => e = .returned (.int .i64 code) ∧ Upd T W w' ∧ P w' := by
  obtain ⟨id, c, hit0, hc, hth, hk0, hcn⟩ := spot_thing s (by decide)
  have hcnt : i < c.cnt := by rw [hcn]; show i < n / 1; omega
  have ce := elem_c g w s.w64 id hit0 c hc hth i (by omega) (by omega)
  unfold ThPost at ce
  rw [hk0] at ce
  have hl8 : bs.length ≤ 8388608 := (g.ok t _ s.cell).2.2
  have hiw : IntKind.i64.wrap (i : Int) = i := by have := s.fit; rw [IntKind.wrap_i64]; omega
  have HV := hid hcl
  have HU := hid hun
  have HT : Hid (∀ k, T k → k < W.heap.size) := hid g.tlt
  generalize c.cl.view = vw at *
  generalize c.bl = bl at *
  generalize c.wl = wl at *
  generalize c.cl.base = ba at *
  generalize c.cl.frm = fr at *
  generalize c.cl.len = ln at *
  clear g s hi hcl hun hc hth hk0 hcn hcnt hit0 hl8
  go_enter Tryz.func7, Tryz.ntmps7
  go_upto_region 2 with (go_at_call 24; (with_reducible refine ce.mono ?_); rintro e w2 ⟨ob, bc, ow, wc, rfl, hB2, ho⟩; clear ce ho)
  have hB3 : Below w2.heap.size w2 (w2.alloc (.cells #[.int .i64 8, .bool vw, .int .i64 0, .string ⟨#[]⟩, .slice ob bl bc, .slice ow wl wc, .int .u64 ba, .int .i64 fr, .int .i64 ln] 50)) := (Below.refl _ w2).alloc (Nat.le_refl _) _
  have f3 := World.alloc_heap_new w2 (.cells #[.int .i64 8, .bool vw, .int .i64 0, .string ⟨#[]⟩, .slice ob bl bc, .slice ow wl wc, .int .u64 ba, .int .i64 fr, .int .i64 ln] 50)
  have hbel := hB2.trans (hB3.mono hB2.size)
  have hz2 := hB2.size
  generalize w2.alloc (.cells #[.int .i64 8, .bool vw, .int .i64 0, .string ⟨#[]⟩, .slice ob bl bc, .slice ow wl wc, .int .u64 ba, .int .i64 fr, .int .i64 ln] 50) = w3 at *
  generalize w2.heap.size = B9 at *
  have cu := HU.out w3 hbel
  go_upto_region 5 with (go_at_call 25; (with_reducible refine cu.mono ?_); rintro e w4 ⟨rfl, hB4⟩; clear cu)
  have hB5 : Below w4.heap.size w4 (w4.alloc (.cells #[.int .i64 vk, .int .i64 va, .int .u64 vb, .string vt, .int .u64 vr] 33)) := (Below.refl _ w4).alloc (Nat.le_refl _) _
  have f5 := World.alloc_heap_new w4 (.cells #[.int .i64 vk, .int .i64 va, .int .u64 vb, .string vt, .int .u64 vr] 33)
  have f35 : (w4.alloc (.cells #[.int .i64 vk, .int .i64 va, .int .u64 vb, .string vt, .int .u64 vr] 33)).heap[B9]? = some (.cells #[.int .i64 8, .bool vw, .int .i64 0, .string ⟨#[]⟩, .slice ob bl bc, .slice ow wl wc, .int .u64 ba, .int .i64 fr, .int .i64 ln] 50) := (hB5.block B9 (Nat.lt_of_lt_of_le (lt_get f3) hB4.size)).trans ((hB4.block B9 (lt_get f3)).trans f3)
  have hbel5 := (hbel.trans (hB4.mono hbel.size)).trans (hB5.mono (Nat.le_trans hbel.size hB4.size))
  have hz4 : W.heap.size ≤ w4.heap.size := Nat.le_trans hbel.size hB4.size
  generalize w4.alloc (.cells #[.int .i64 vk, .int .i64 va, .int .u64 vb, .string vt, .int .u64 vr] 33) = w5 at *
  generalize w4.heap.size = B11 at *
  have nT : Hid (¬ T B9 ∧ ¬ T B11) := hid ⟨fun e => by have := HT.out _ e; omega, fun e => by have := HT.out _ e; omega⟩
  clear hB4 hB5 hB2 hB3 hbel f3 HU hz2 hz4 HT
  go_upto_region 7 with fail
  have hBd : Below W.heap.size W w5.drew := ⟨hbel5.os, hbel5.tape, hbel5.output, hbel5.size, hbel5.block⟩
  have pf := fun f g cs ds w => pair_f1 f g cs ds w
  have cp := pairOf_octets w5.drew hb w vw ob ow bl bc wl wc ba fr ln
  refine wp_region_held_drew (S := fun w' => w'.heap[B9]? = some (.cells #[.int .i64 8, .bool vw, .int .i64 0, .string ⟨#[]⟩, .slice ob bl bc, .slice ow wl wc, .int .u64 ba, .int .i64 fr, .int .i64 ln] 50) ∧ w'.heap[B11]? = some (.cells #[.int .i64 vk, .int .i64 va, .int .u64 vb, .string vt, .int .u64 vr] 33)) (by kernel_rfl) ⟨f35, f5⟩ ?_
  intro hS
  (refine wpAnyH_take (i := 0) (v := ?_) rfl (by kernel_rfl) (by kernel_rfl) (by kernel_rfl) (fun _ _ _ h => h) (Or.inl ⟨by rfl, ?_⟩) hS ?_); rotate_left; (focus (intro w' hSw; (have ec := fun j => cell_of_row w' B9 j _ _ _ hSw.1); (have ev := fun j => cell_of_row w' B11 j _ _ _ hSw.2); go_simp; (try with_reducible rfl)))
  (refine wpAnyH_take (i := 1) (v := ?_) rfl (by kernel_rfl) (by kernel_rfl) (by kernel_rfl) (fun _ _ _ h => h) (Or.inl ⟨by rfl, ?_⟩) hS ?_); rotate_left; (focus (intro w' hSw; (have ec := fun j => cell_of_row w' B9 j _ _ _ hSw.1); (have ev := fun j => cell_of_row w' B11 j _ _ _ hSw.2); go_simp; (try with_reducible rfl)))
  (refine wpAnyH_take (i := 2) (v := ?_) rfl (by kernel_rfl) (by kernel_rfl) (by kernel_rfl) (fun _ _ _ h => h) (Or.inl ⟨by rfl, ?_⟩) hS ?_); rotate_left; (focus (intro w' hSw; (have ec := fun j => cell_of_row w' B9 j _ _ _ hSw.1); (have ev := fun j => cell_of_row w' B11 j _ _ _ hSw.2); go_simp; (try with_reducible rfl)))
  (refine wpAnyH_take (i := 5) (v := ?_) rfl (by kernel_rfl) (by kernel_rfl) (by kernel_rfl) (fun _ _ _ h => h) (Or.inl ⟨by rfl, ?_⟩) hS ?_); rotate_left; (focus (intro w' hSw; (have ec := fun j => cell_of_row w' B9 j _ _ _ hSw.1); (have ev := fun j => cell_of_row w' B11 j _ _ _ hSw.2); go_simp; (try with_reducible rfl)))
  (refine wpAnyH_take (i := 6) (v := ?_) rfl (by kernel_rfl) (by kernel_rfl) (by kernel_rfl) (fun _ _ _ h => h) (Or.inl ⟨by rfl, ?_⟩) hS ?_); rotate_left; (focus (intro w' hSw; (have ec := fun j => cell_of_row w' B9 j _ _ _ hSw.1); (have ev := fun j => cell_of_row w' B11 j _ _ _ hSw.2); go_simp; (try with_reducible rfl)))
  (refine wpAnyH_take (i := 7) (v := ?_) rfl (by kernel_rfl) (by kernel_rfl) (by kernel_rfl) (fun _ _ _ h => h) (Or.inl ⟨by rfl, ?_⟩) hS ?_); rotate_left; (focus (intro w' hSw; (have ec := fun j => cell_of_row w' B9 j _ _ _ hSw.1); (have ev := fun j => cell_of_row w' B11 j _ _ _ hSw.2); go_simp; (try with_reducible rfl)))
  refine wpAnyH_ready (rs := [3]) (by kernel_rfl) (by simp) ?_
  refine AllReadyH.cons rfl (fun K hK => ?_) AllReadyH.nil
  go_simp
  refine cp.mono ?_
  rintro e w6 ⟨Br, Bw, rfl, hB6, hP6⟩
  have hS6 : w6.heap[B9]? = some (.cells #[.int .i64 8, .bool vw, .int .i64 0, .string ⟨#[]⟩, .slice ob bl bc, .slice ow wl wc, .int .u64 ba, .int .i64 fr, .int .i64 ln] 50) ∧ w6.heap[B11]? = some (.cells #[.int .i64 vk, .int .i64 va, .int .u64 vb, .string vt, .int .u64 vr] 33) := ⟨(hB6.block B9 (lt_get hS.1)).trans hS.1, (hB6.block B11 (lt_get hS.2)).trans hS.2⟩
  have cv := HV.out w6 Br Bw (hBd.trans (hB6.mono hBd.size)) hP6
  refine hK.out _ _ hS6 (fun _ => ?_)
  clear hK K cp hS
  have hS := hS6
  (refine wpAnyH_take (i := 4) (v := ?_) rfl (by kernel_rfl) (by kernel_rfl) (by kernel_rfl) (fun _ _ _ h => h) (Or.inl ⟨by rfl, ?_⟩) hS ?_); rotate_left; (focus (intro w' hSw; go_simp; (try with_reducible rfl)))
  refine wpAnyH_ready (rs := [8]) (by kernel_rfl) (by simp) ?_
  refine AllReadyH.cons rfl (fun K hK => ?_) AllReadyH.nil
  go_simp
  refine cv.mono ?_
  rintro e w7 ⟨rfl, hU7, hP7⟩
  have hS7 : w7.heap[B9]? = some (.cells #[.int .i64 8, .bool vw, .int .i64 0, .string ⟨#[]⟩, .slice ob bl bc, .slice ow wl wc, .int .u64 ba, .int .i64 fr, .int .i64 ln] 50) ∧ w7.heap[B11]? = some (.cells #[.int .i64 vk, .int .i64 va, .int .u64 vb, .string vt, .int .u64 vr] 33) := ⟨(hU7.block B9 (lt_get hS.1) nT.out.1).trans hS.1, (hU7.block B11 (lt_get hS.2) nT.out.2).trans hS.2⟩
  have hUW : Upd T W w7 := (Upd.of_below (hBd.trans (hB6.mono hBd.size))).trans' hU7
  refine hK.out _ _ hS7 (fun _ => ?_)
  clear hK K cv hS hS6
  have hS := hS7
  (refine wpAnyH_take (i := 9) (v := ?_) rfl (by kernel_rfl) (by kernel_rfl) (by kernel_rfl) (fun _ _ _ h => h) (Or.inl ⟨by rfl, ?_⟩) hS ?_); rotate_left; (focus (intro w' hSw; go_simp; (try with_reducible rfl)))
  refine wpAnyH_done (by kernel_rfl) ?_ _
  go_wp2
  go_ret
  exact ⟨rfl, hUW, hP7⟩
set_option maxRecDepth 100000 in
set_option maxHeartbeats 1000000 in
/-- Store, over what Unbox answers and what the pair does -/
theorem store_shorts {w : Nat} {k2 : Int} {t p n : Nat} {bs : List Nat} (g : HLay W hb sb vc T H u h) (s : Spot H w 7 t p n k2 bs) (i : Nat) (hi : i * 2 + 2 ≤ n) (xw vk va vb vr : Int) (vt : ByteArray)
    (hun : ∀ w2, Below W.heap.size W w2 → Calls Tryz.prog 25 #[.pointer (some ⟨hb, 0, none⟩), .int .u64 xw] w2 fun e w' => e = .returned (.tuple #[.agg #[.int .i64 vk, .int .i64 va, .int .u64 vb, .string vt, .int .u64 vr], .int .i64 0]) ∧ Below w2.heap.size w2 w')
    (code : Int) (P : World → Prop) (hcl : ∀ w4 Br Bw, Below W.heap.size W w4 → PairAt w4 Br Bw hb w 2 → Calls Tryz.prog 93 #[.int .i64 i, .int .u64 xw, .agg #[.int .i64 vk, .int .i64 va, .int .u64 vb, .string vt, .int .u64 vr], .pointer (some ⟨Bw, 0, none⟩)] w4 fun e w' => e = .returned (.int .i64 code) ∧ Upd T w4 w' ∧ P w') :
    Calls Tryz.prog 7 #[.pointer (some ⟨hb, 0, none⟩), .int .u64 w, .int .i64 i, .int .u64 xw] W fun e w' => e = .returned (.int .i64 code) ∧ Upd T W w' ∧ P w' := by
  obtain ⟨id, c, hit0, hc, hth, hk0, hcn⟩ := spot_thing s (by decide)
  have hcnt : i < c.cnt := by rw [hcn]; show i < n / 2; omega
  have ce := elem_c g w s.w64 id hit0 c hc hth i (by omega) (by omega)
  unfold ThPost at ce
  rw [hk0] at ce
  have hl8 : bs.length ≤ 8388608 := (g.ok t _ s.cell).2.2
  have hiw : IntKind.i64.wrap (i : Int) = i := by have := s.fit; rw [IntKind.wrap_i64]; omega
  have HV := hid hcl
  have HU := hid hun
  have HT : Hid (∀ k, T k → k < W.heap.size) := hid g.tlt
  generalize c.cl.view = vw at *
  generalize c.bl = bl at *
  generalize c.wl = wl at *
  generalize c.cl.base = ba at *
  generalize c.cl.frm = fr at *
  generalize c.cl.len = ln at *
  clear g s hi hcl hun hc hth hk0 hcn hcnt hit0 hl8
  go_enter Tryz.func7, Tryz.ntmps7
  go_upto_region 2 with (go_at_call 24; (with_reducible refine ce.mono ?_); rintro e w2 ⟨ob, bc, ow, wc, rfl, hB2, ho⟩; clear ce ho)
  have hB3 : Below w2.heap.size w2 (w2.alloc (.cells #[.int .i64 7, .bool vw, .int .i64 0, .string ⟨#[]⟩, .slice ob bl bc, .slice ow wl wc, .int .u64 ba, .int .i64 fr, .int .i64 ln] 50)) := (Below.refl _ w2).alloc (Nat.le_refl _) _
  have f3 := World.alloc_heap_new w2 (.cells #[.int .i64 7, .bool vw, .int .i64 0, .string ⟨#[]⟩, .slice ob bl bc, .slice ow wl wc, .int .u64 ba, .int .i64 fr, .int .i64 ln] 50)
  have hbel := hB2.trans (hB3.mono hB2.size)
  have hz2 := hB2.size
  generalize w2.alloc (.cells #[.int .i64 7, .bool vw, .int .i64 0, .string ⟨#[]⟩, .slice ob bl bc, .slice ow wl wc, .int .u64 ba, .int .i64 fr, .int .i64 ln] 50) = w3 at *
  generalize w2.heap.size = B9 at *
  have cu := HU.out w3 hbel
  go_upto_region 5 with (go_at_call 25; (with_reducible refine cu.mono ?_); rintro e w4 ⟨rfl, hB4⟩; clear cu)
  have hB5 : Below w4.heap.size w4 (w4.alloc (.cells #[.int .i64 vk, .int .i64 va, .int .u64 vb, .string vt, .int .u64 vr] 33)) := (Below.refl _ w4).alloc (Nat.le_refl _) _
  have f5 := World.alloc_heap_new w4 (.cells #[.int .i64 vk, .int .i64 va, .int .u64 vb, .string vt, .int .u64 vr] 33)
  have f35 : (w4.alloc (.cells #[.int .i64 vk, .int .i64 va, .int .u64 vb, .string vt, .int .u64 vr] 33)).heap[B9]? = some (.cells #[.int .i64 7, .bool vw, .int .i64 0, .string ⟨#[]⟩, .slice ob bl bc, .slice ow wl wc, .int .u64 ba, .int .i64 fr, .int .i64 ln] 50) := (hB5.block B9 (Nat.lt_of_lt_of_le (lt_get f3) hB4.size)).trans ((hB4.block B9 (lt_get f3)).trans f3)
  have hbel5 := (hbel.trans (hB4.mono hbel.size)).trans (hB5.mono (Nat.le_trans hbel.size hB4.size))
  have hz4 : W.heap.size ≤ w4.heap.size := Nat.le_trans hbel.size hB4.size
  generalize w4.alloc (.cells #[.int .i64 vk, .int .i64 va, .int .u64 vb, .string vt, .int .u64 vr] 33) = w5 at *
  generalize w4.heap.size = B11 at *
  have nT : Hid (¬ T B9 ∧ ¬ T B11) := hid ⟨fun e => by have := HT.out _ e; omega, fun e => by have := HT.out _ e; omega⟩
  clear hB4 hB5 hB2 hB3 hbel f3 HU hz2 hz4 HT
  go_upto_region 7 with fail
  have hBd : Below W.heap.size W w5.drew := ⟨hbel5.os, hbel5.tape, hbel5.output, hbel5.size, hbel5.block⟩
  have pf := fun f g cs ds w => pair_f1 f g cs ds w
  have cp := pairOf_shorts w5.drew hb w vw ob ow bl bc wl wc ba fr ln
  refine wp_region_held_drew (S := fun w' => w'.heap[B9]? = some (.cells #[.int .i64 7, .bool vw, .int .i64 0, .string ⟨#[]⟩, .slice ob bl bc, .slice ow wl wc, .int .u64 ba, .int .i64 fr, .int .i64 ln] 50) ∧ w'.heap[B11]? = some (.cells #[.int .i64 vk, .int .i64 va, .int .u64 vb, .string vt, .int .u64 vr] 33)) (by kernel_rfl) ⟨f35, f5⟩ ?_
  intro hS
  (refine wpAnyH_take (i := 0) (v := ?_) rfl (by kernel_rfl) (by kernel_rfl) (by kernel_rfl) (fun _ _ _ h => h) (Or.inl ⟨by rfl, ?_⟩) hS ?_); rotate_left; (focus (intro w' hSw; (have ec := fun j => cell_of_row w' B9 j _ _ _ hSw.1); (have ev := fun j => cell_of_row w' B11 j _ _ _ hSw.2); go_simp; (try with_reducible rfl)))
  (refine wpAnyH_take (i := 1) (v := ?_) rfl (by kernel_rfl) (by kernel_rfl) (by kernel_rfl) (fun _ _ _ h => h) (Or.inl ⟨by rfl, ?_⟩) hS ?_); rotate_left; (focus (intro w' hSw; (have ec := fun j => cell_of_row w' B9 j _ _ _ hSw.1); (have ev := fun j => cell_of_row w' B11 j _ _ _ hSw.2); go_simp; (try with_reducible rfl)))
  (refine wpAnyH_take (i := 2) (v := ?_) rfl (by kernel_rfl) (by kernel_rfl) (by kernel_rfl) (fun _ _ _ h => h) (Or.inl ⟨by rfl, ?_⟩) hS ?_); rotate_left; (focus (intro w' hSw; (have ec := fun j => cell_of_row w' B9 j _ _ _ hSw.1); (have ev := fun j => cell_of_row w' B11 j _ _ _ hSw.2); go_simp; (try with_reducible rfl)))
  (refine wpAnyH_take (i := 5) (v := ?_) rfl (by kernel_rfl) (by kernel_rfl) (by kernel_rfl) (fun _ _ _ h => h) (Or.inl ⟨by rfl, ?_⟩) hS ?_); rotate_left; (focus (intro w' hSw; (have ec := fun j => cell_of_row w' B9 j _ _ _ hSw.1); (have ev := fun j => cell_of_row w' B11 j _ _ _ hSw.2); go_simp; (try with_reducible rfl)))
  (refine wpAnyH_take (i := 6) (v := ?_) rfl (by kernel_rfl) (by kernel_rfl) (by kernel_rfl) (fun _ _ _ h => h) (Or.inl ⟨by rfl, ?_⟩) hS ?_); rotate_left; (focus (intro w' hSw; (have ec := fun j => cell_of_row w' B9 j _ _ _ hSw.1); (have ev := fun j => cell_of_row w' B11 j _ _ _ hSw.2); go_simp; (try with_reducible rfl)))
  (refine wpAnyH_take (i := 7) (v := ?_) rfl (by kernel_rfl) (by kernel_rfl) (by kernel_rfl) (fun _ _ _ h => h) (Or.inl ⟨by rfl, ?_⟩) hS ?_); rotate_left; (focus (intro w' hSw; (have ec := fun j => cell_of_row w' B9 j _ _ _ hSw.1); (have ev := fun j => cell_of_row w' B11 j _ _ _ hSw.2); go_simp; (try with_reducible rfl)))
  refine wpAnyH_ready (rs := [3]) (by kernel_rfl) (by simp) ?_
  refine AllReadyH.cons rfl (fun K hK => ?_) AllReadyH.nil
  go_simp
  refine cp.mono ?_
  rintro e w6 ⟨Br, Bw, rfl, hB6, hP6⟩
  have hS6 : w6.heap[B9]? = some (.cells #[.int .i64 7, .bool vw, .int .i64 0, .string ⟨#[]⟩, .slice ob bl bc, .slice ow wl wc, .int .u64 ba, .int .i64 fr, .int .i64 ln] 50) ∧ w6.heap[B11]? = some (.cells #[.int .i64 vk, .int .i64 va, .int .u64 vb, .string vt, .int .u64 vr] 33) := ⟨(hB6.block B9 (lt_get hS.1)).trans hS.1, (hB6.block B11 (lt_get hS.2)).trans hS.2⟩
  have cv := HV.out w6 Br Bw (hBd.trans (hB6.mono hBd.size)) hP6
  refine hK.out _ _ hS6 (fun _ => ?_)
  clear hK K cp hS
  have hS := hS6
  (refine wpAnyH_take (i := 4) (v := ?_) rfl (by kernel_rfl) (by kernel_rfl) (by kernel_rfl) (fun _ _ _ h => h) (Or.inl ⟨by rfl, ?_⟩) hS ?_); rotate_left; (focus (intro w' hSw; go_simp; (try with_reducible rfl)))
  refine wpAnyH_ready (rs := [8]) (by kernel_rfl) (by simp) ?_
  refine AllReadyH.cons rfl (fun K hK => ?_) AllReadyH.nil
  go_simp
  refine cv.mono ?_
  rintro e w7 ⟨rfl, hU7, hP7⟩
  have hS7 : w7.heap[B9]? = some (.cells #[.int .i64 7, .bool vw, .int .i64 0, .string ⟨#[]⟩, .slice ob bl bc, .slice ow wl wc, .int .u64 ba, .int .i64 fr, .int .i64 ln] 50) ∧ w7.heap[B11]? = some (.cells #[.int .i64 vk, .int .i64 va, .int .u64 vb, .string vt, .int .u64 vr] 33) := ⟨(hU7.block B9 (lt_get hS.1) nT.out.1).trans hS.1, (hU7.block B11 (lt_get hS.2) nT.out.2).trans hS.2⟩
  have hUW : Upd T W w7 := (Upd.of_below (hBd.trans (hB6.mono hBd.size))).trans' hU7
  refine hK.out _ _ hS7 (fun _ => ?_)
  clear hK K cv hS hS6
  have hS := hS7
  (refine wpAnyH_take (i := 9) (v := ?_) rfl (by kernel_rfl) (by kernel_rfl) (by kernel_rfl) (fun _ _ _ h => h) (Or.inl ⟨by rfl, ?_⟩) hS ?_); rotate_left; (focus (intro w' hSw; go_simp; (try with_reducible rfl)))
  refine wpAnyH_done (by kernel_rfl) ?_ _
  go_wp2
  go_ret
  exact ⟨rfl, hUW, hP7⟩
theorem load_out (g : HLay W hb sb vc T H u h) (w : Nat) (hw : w < 18446744073709551616) (id : Nat) (hi : hit H w = some id) (c : Hc) (hc : H[id]? = some (some c)) (hth : isTh c) (i : Int) (h1 : ¬ (0 ≤ i ∧ i < (c.cnt : Nat))) :
    Calls Tryz.prog 8 #[.pointer (some ⟨hb, 0, none⟩), .int .u64 w, .int .i64 i] W fun e w' => e = .returned (.tuple #[.int .u64 0, .int .i64 31]) ∧ Below W.heap.size W w' := by
  have ce := elem_out g w hw id hi c hc hth i h1
  clear g hc hth h1 hi
  go_enter Tryz.func8, Tryz.ntmps8
  go_upto_region 2 with (go_at_call 24; (with_reducible refine ce.mono ?_); rintro e w2 ⟨rfl, hB2⟩; clear ce)
  have hB3 : Below w2.heap.size w2 (w2.alloc (.cells #[.int .i64 0, .bool false, .int .i64 0, .string ⟨#[]⟩, .slice none 0 0, .slice none 0 0, .int .u64 0, .int .i64 0, .int .i64 0] 50)) := (Below.refl _ w2).alloc (Nat.le_refl _) _
  have hbel := hB2.trans (hB3.mono hB2.size)
  generalize w2.alloc (.cells #[.int .i64 0, .bool false, .int .i64 0, .string ⟨#[]⟩, .slice none 0 0, .slice none 0 0, .int .u64 0, .int .i64 0, .int .i64 0] 50) = w3 at *
  go_wp2
  go_ret2
  exact ⟨rfl, hbel⟩
theorem store_out (g : HLay W hb sb vc T H u h) (w : Nat) (hw : w < 18446744073709551616) (id : Nat) (hi : hit H w = some id) (c : Hc) (hc : H[id]? = some (some c)) (hth : isTh c) (i xw : Int) (h1 : ¬ (0 ≤ i ∧ i < (c.cnt : Nat))) :
    Calls Tryz.prog 7 #[.pointer (some ⟨hb, 0, none⟩), .int .u64 w, .int .i64 i, .int .u64 xw] W fun e w' => e = .returned (.int .i64 31) ∧ Below W.heap.size W w' := by
  have ce := elem_out g w hw id hi c hc hth i h1
  clear g hc hth h1 hi
  go_enter Tryz.func7, Tryz.ntmps7
  go_upto_region 2 with (go_at_call 24; (with_reducible refine ce.mono ?_); rintro e w2 ⟨rfl, hB2⟩; clear ce)
  have hB3 : Below w2.heap.size w2 (w2.alloc (.cells #[.int .i64 0, .bool false, .int .i64 0, .string ⟨#[]⟩, .slice none 0 0, .slice none 0 0, .int .u64 0, .int .i64 0, .int .i64 0] 50)) := (Below.refl _ w2).alloc (Nat.le_refl _) _
  have hbel := hB2.trans (hB3.mono hB2.size)
  generalize w2.alloc (.cells #[.int .i64 0, .bool false, .int .i64 0, .string ⟨#[]⟩, .slice none 0 0, .slice none 0 0, .int .u64 0, .int .i64 0, .int .i64 0] 50) = w3 at *
  go_wp2
  go_ret
  exact ⟨rfl, hbel⟩
/-- a small whole number is stored -/
theorem store_oct {w : Nat} {k2 : Int} {t p n : Nat} {bs : List Nat} (g : HLay W hb sb vc T H u h) (s : Spot H w 8 t p n k2 bs) (i : Nat) (hi : i * 1 + 1 ≤ n) (j : Nat) (hj : j ≤ 255) :
    Calls Tryz.prog 7 #[.pointer (some ⟨hb, 0, none⟩), .int .u64 w, .int .i64 i, .int .u64 (intW j)] W fun e w' => e = .returned (.int .i64 0) ∧ Upd T W w' ∧ HLay w' hb sb vc T (H.set t (some (.buf k2 (saved bs (p + i * 1) j 1)))) u h := by
  have hs : smallB (j : Int) = true := by unfold smallB; rw [decide_eq_true_eq]; omega
  refine store_octets g s i hi (intW j) 2 j 0 0 ⟨#[]⟩ (fun w2 hB => unbox_sint j hs _ w2) 0 (fun w' => HLay w' hb sb vc T (H.set t (some (.buf k2 (saved bs (p + i * 1) j 1)))) u h) (fun w4 Br Bw hB hP => ?_)
  have := octets2_c (g.below hB) s hP i hi (by omega) (intW j) j (by omega)
  rw [show ((j : Int) % 18446744073709551616).toNat = j by omega] at this
  exact this
end
end Go.Proofs.YtikgicepdalfpaaGreat.W
/- Package buf: Store, of doubles and narrows. -/
namespace Go.Proofs.YtikgicepdalfpaaGreat.W
open Go.ChangeShapes Go.WideShapes Go.RowKit Go.Shelf
set_option linter.unusedVariables false
section
variable {W W' : World} {hb sb : Nat} {vc : Value} {T : Nat → Prop} {H : List (Option Hc)} {u h : Nat}
theorem double_int (i : Int) (x : Int) (hx : ∀ w, Calls Tryz.prog 124 #[.int .i64 i] w fun e w' => e = .returned (.int .u64 x) ∧ Below w.heap.size w w') (W : World) : Calls Tryz.prog 86 #[.agg #[.int .i64 2, .int .i64 i, .int .u64 0, .string ⟨#[]⟩, .int .u64 0]] W fun e w' => e = .returned (.tuple #[.int .u64 x, .int .i64 0]) ∧ Below W.heap.size W w' := by
  have hB1 : Below W.heap.size W (W.alloc (.cells #[.int .i64 2, .int .i64 i, .int .u64 0, .string ⟨#[]⟩, .int .u64 0] 33)) := (Below.refl _ W).alloc (Nat.le_refl _) _
  have e1 := World.cell?_alloc_new W #[.int .i64 2, .int .i64 i, .int .u64 0, .string ⟨#[]⟩, .int .u64 0] 33
  go_enter Tryz.func86, Tryz.ntmps86
  go_wp2_with (go_at_call 124; (with_reducible refine (hx _).mono ?_); rintro e w2 ⟨rfl, hB2⟩; clear hx)
  go_ret2
  exact ⟨rfl, hB1.trans (hB2.mono hB1.size)⟩
theorem double_flt (x : Int) (W : World) : Calls Tryz.prog 86 #[.agg #[.int .i64 3, .int .i64 0, .int .u64 x, .string ⟨#[]⟩, .int .u64 0]] W fun e w' => e = .returned (.tuple #[.int .u64 x, .int .i64 0]) ∧ Below W.heap.size W w' := by
  have hB1 : Below W.heap.size W (W.alloc (.cells #[.int .i64 3, .int .i64 0, .int .u64 x, .string ⟨#[]⟩, .int .u64 0] 33)) := (Below.refl _ W).alloc (Nat.le_refl _) _
  have e1 := World.cell?_alloc_new W #[.int .i64 3, .int .i64 0, .int .u64 x, .string ⟨#[]⟩, .int .u64 0] 33
  go_enter Tryz.func86, Tryz.ntmps86
  go_wp2
  go_ret2
  exact ⟨rfl, hB1⟩
theorem doubles2_c {w : Nat} {k2 : Int} {t p n Br Bw : Nat} {bs : List Nat} (g : HLay W hb sb vc T H u h) (s : Spot H w 5 t p n k2 bs) (r : PairAt W Br Bw hb w 8) (i : Nat) (hi : i * 8 + 8 ≤ n) (ha : (p + i * 8) % 8 = 0) (xw vk va vb vr : Int) (vt : ByteArray) (x : Nat) (hx64 : x < 18446744073709551616) (ci : ∀ w, Calls Tryz.prog 86 #[.agg #[.int .i64 vk, .int .i64 va, .int .u64 vb, .string vt, .int .u64 vr]] w fun e w' => e = .returned (.tuple #[.int .u64 (x : Nat), .int .i64 0]) ∧ Below w.heap.size w w') :
    Calls Tryz.prog 85 #[.int .i64 i, .int .u64 xw, .agg #[.int .i64 vk, .int .i64 va, .int .u64 vb, .string vt, .int .u64 vr], .pointer (some ⟨Bw, 0, none⟩)] W fun e w' => e = .returned (.int .i64 0) ∧ Upd T W w' ∧ HLay w' hb sb vc T (H.set t (some (.buf k2 (saved bs (p + i * 8) x 8)))) u h := by
  have hB1 : Below W.heap.size W (W.alloc (.cells #[.int .i64 vk, .int .i64 va, .int .u64 vb, .string vt, .int .u64 vr] 33)) := (Below.refl _ W).alloc (Nat.le_refl _) _
  have e1 := World.cell?_alloc_new W #[.int .i64 vk, .int .i64 va, .int .u64 vb, .string vt, .int .u64 vr] 33
  have hv : ∀ w2, Below W.heap.size W w2 → (∃ Bh Bx Bd, w2.cell? ⟨Bw, 0, none⟩ = some (.func (.func 122) #[] #[.pointer (some ⟨Bh, 0, none⟩), .pointer (some ⟨Bx, 0, none⟩), .pointer (some ⟨Bd, 0, none⟩)]) ∧ Calls Tryz.prog 122 #[.int .i64 i, .int .u64 (x : Nat), .pointer (some ⟨Bh, 0, none⟩), .pointer (some ⟨Bx, 0, none⟩), .pointer (some ⟨Bd, 0, none⟩)] w2 fun e w' => e = .returned (.int .i64 0) ∧ Hid (Upd T W w' ∧ HLay w' hb sb vc T (H.set t (some (.buf k2 (saved bs (p + i * 8) x 8)))) u h)) := by
    intro w2 hB2
    obtain ⟨Bh, Bx, Bd, hR, hr, hw⟩ := (r.below hB2).ex
    refine ⟨Bh, Bx, Bd, hw.cell, (raw2_c (g.below hB2) s hR (.inr (.inr (.inr rfl))) i hi ha _ hx64).mono ?_⟩
    rintro e w' ⟨rfl, hU, hL⟩
    exact ⟨rfl, (Upd.of_below hB2).trans' hU, hL⟩
  generalize (H.set t (some (.buf k2 (saved bs (p + i * 8) x 8)))) = HH at *
  have HV := hid hv
  have HB1 := hid hB1
  clear g s r hi ha hx64 hv hB1
  go_enter Tryz.func85, Tryz.ntmps85
  go_upto_region 4 with (go_at_call 86; (with_reducible refine (ci _).mono ?_); rintro e w2 ⟨rfl, hB2⟩; clear ci)
  obtain ⟨Bh, Bx, Bd, x1, cv⟩ := HV.out w2 (HB1.out.trans (hB2.mono HB1.out.size))
  go_wp2_with (go_at_call 122; (with_reducible refine cv.mono ?_); rintro e w3 ⟨rfl, hf⟩; clear cv)
  go_ret
  exact ⟨rfl, hf.out.1, hf.out.2⟩
set_option maxRecDepth 100000 in
set_option maxHeartbeats 1000000 in
/-- Store, over what Unbox answers and what the pair does -/
theorem store_doubles {w : Nat} {k2 : Int} {t p n : Nat} {bs : List Nat} (g : HLay W hb sb vc T H u h) (s : Spot H w 5 t p n k2 bs) (i : Nat) (hi : i * 8 + 8 ≤ n) (xw vk va vb vr : Int) (vt : ByteArray)
    (hun : ∀ w2, Below W.heap.size W w2 → Calls Tryz.prog 25 #[.pointer (some ⟨hb, 0, none⟩), .int .u64 xw] w2 fun e w' => e = .returned (.tuple #[.agg #[.int .i64 vk, .int .i64 va, .int .u64 vb, .string vt, .int .u64 vr], .int .i64 0]) ∧ Below w2.heap.size w2 w')
    (code : Int) (P : World → Prop) (hcl : ∀ w4 Br Bw, Below W.heap.size W w4 → PairAt w4 Br Bw hb w 8 → Calls Tryz.prog 85 #[.int .i64 i, .int .u64 xw, .agg #[.int .i64 vk, .int .i64 va, .int .u64 vb, .string vt, .int .u64 vr], .pointer (some ⟨Bw, 0, none⟩)] w4 fun e w' => e = .returned (.int .i64 code) ∧ Upd T w4 w' ∧ P w') :
    Calls Tryz.prog 7 #[.pointer (some ⟨hb, 0, none⟩), .int .u64 w, .int .i64 i, .int .u64 xw] W fun e w' => e = .returned (.int .i64 code) ∧ Upd T W w' ∧ P w' := by
  obtain ⟨id, c, hit0, hc, hth, hk0, hcn⟩ := spot_thing s (by decide)
  have hcnt : i < c.cnt := by rw [hcn]; show i < n / 8; omega
  have ce := elem_c g w s.w64 id hit0 c hc hth i (by omega) (by omega)
  unfold ThPost at ce
  rw [hk0] at ce
  have hl8 : bs.length ≤ 8388608 := (g.ok t _ s.cell).2.2
  have hiw : IntKind.i64.wrap (i : Int) = i := by have := s.fit; rw [IntKind.wrap_i64]; omega
  have HV := hid hcl
  have HU := hid hun
  have HT : Hid (∀ k, T k → k < W.heap.size) := hid g.tlt
  generalize c.cl.view = vw at *
  generalize c.bl = bl at *
  generalize c.wl = wl at *
  generalize c.cl.base = ba at *
  generalize c.cl.frm = fr at *
  generalize c.cl.len = ln at *
  clear g s hi hcl hun hc hth hk0 hcn hcnt hit0 hl8
  go_enter Tryz.func7, Tryz.ntmps7
  go_upto_region 2 with (go_at_call 24; (with_reducible refine ce.mono ?_); rintro e w2 ⟨ob, bc, ow, wc, rfl, hB2, ho⟩; clear ce ho)
  have hB3 : Below w2.heap.size w2 (w2.alloc (.cells #[.int .i64 5, .bool vw, .int .i64 0, .string ⟨#[]⟩, .slice ob bl bc, .slice ow wl wc, .int .u64 ba, .int .i64 fr, .int .i64 ln] 50)) := (Below.refl _ w2).alloc (Nat.le_refl _) _
  have f3 := World.alloc_heap_new w2 (.cells #[.int .i64 5, .bool vw, .int .i64 0, .string ⟨#[]⟩, .slice ob bl bc, .slice ow wl wc, .int .u64 ba, .int .i64 fr, .int .i64 ln] 50)
  have hbel := hB2.trans (hB3.mono hB2.size)
  have hz2 := hB2.size
  generalize w2.alloc (.cells #[.int .i64 5, .bool vw, .int .i64 0, .string ⟨#[]⟩, .slice ob bl bc, .slice ow wl wc, .int .u64 ba, .int .i64 fr, .int .i64 ln] 50) = w3 at *
  generalize w2.heap.size = B9 at *
  have cu := HU.out w3 hbel
  go_upto_region 5 with (go_at_call 25; (with_reducible refine cu.mono ?_); rintro e w4 ⟨rfl, hB4⟩; clear cu)
  have hB5 : Below w4.heap.size w4 (w4.alloc (.cells #[.int .i64 vk, .int .i64 va, .int .u64 vb, .string vt, .int .u64 vr] 33)) := (Below.refl _ w4).alloc (Nat.le_refl _) _
  have f5 := World.alloc_heap_new w4 (.cells #[.int .i64 vk, .int .i64 va, .int .u64 vb, .string vt, .int .u64 vr] 33)
  have f35 : (w4.alloc (.cells #[.int .i64 vk, .int .i64 va, .int .u64 vb, .string vt, .int .u64 vr] 33)).heap[B9]? = some (.cells #[.int .i64 5, .bool vw, .int .i64 0, .string ⟨#[]⟩, .slice ob bl bc, .slice ow wl wc, .int .u64 ba, .int .i64 fr, .int .i64 ln] 50) := (hB5.block B9 (Nat.lt_of_lt_of_le (lt_get f3) hB4.size)).trans ((hB4.block B9 (lt_get f3)).trans f3)
  have hbel5 := (hbel.trans (hB4.mono hbel.size)).trans (hB5.mono (Nat.le_trans hbel.size hB4.size))
  have hz4 : W.heap.size ≤ w4.heap.size := Nat.le_trans hbel.size hB4.size
  generalize w4.alloc (.cells #[.int .i64 vk, .int .i64 va, .int .u64 vb, .string vt, .int .u64 vr] 33) = w5 at *
  generalize w4.heap.size = B11 at *
  have nT : Hid (¬ T B9 ∧ ¬ T B11) := hid ⟨fun e => by have := HT.out _ e; omega, fun e => by have := HT.out _ e; omega⟩
  clear hB4 hB5 hB2 hB3 hbel f3 HU hz2 hz4 HT
  go_upto_region 7 with fail
  have hBd : Below W.heap.size W w5.drew := ⟨hbel5.os, hbel5.tape, hbel5.output, hbel5.size, hbel5.block⟩
  have pf := fun f g cs ds w => pair_f1 f g cs ds w
  have cp := pairOf_doubles w5.drew hb w vw ob ow bl bc wl wc ba fr ln
  refine wp_region_held_drew (S := fun w' => w'.heap[B9]? = some (.cells #[.int .i64 5, .bool vw, .int .i64 0, .string ⟨#[]⟩, .slice ob bl bc, .slice ow wl wc, .int .u64 ba, .int .i64 fr, .int .i64 ln] 50) ∧ w'.heap[B11]? = some (.cells #[.int .i64 vk, .int .i64 va, .int .u64 vb, .string vt, .int .u64 vr] 33)) (by kernel_rfl) ⟨f35, f5⟩ ?_
  intro hS
  (refine wpAnyH_take (i := 0) (v := ?_) rfl (by kernel_rfl) (by kernel_rfl) (by kernel_rfl) (fun _ _ _ h => h) (Or.inl ⟨by rfl, ?_⟩) hS ?_); rotate_left; (focus (intro w' hSw; (have ec := fun j => cell_of_row w' B9 j _ _ _ hSw.1); (have ev := fun j => cell_of_row w' B11 j _ _ _ hSw.2); go_simp; (try with_reducible rfl)))
  (refine wpAnyH_take (i := 1) (v := ?_) rfl (by kernel_rfl) (by kernel_rfl) (by kernel_rfl) (fun _ _ _ h => h) (Or.inl ⟨by rfl, ?_⟩) hS ?_); rotate_left; (focus (intro w' hSw; (have ec := fun j => cell_of_row w' B9 j _ _ _ hSw.1); (have ev := fun j => cell_of_row w' B11 j _ _ _ hSw.2); go_simp; (try with_reducible rfl)))
  (refine wpAnyH_take (i := 2) (v := ?_) rfl (by kernel_rfl) (by kernel_rfl) (by kernel_rfl) (fun _ _ _ h => h) (Or.inl ⟨by rfl, ?_⟩) hS ?_); rotate_left; (focus (intro w' hSw; (have ec := fun j => cell_of_row w' B9 j _ _ _ hSw.1); (have ev := fun j => cell_of_row w' B11 j _ _ _ hSw.2); go_simp; (try with_reducible rfl)))
  (refine wpAnyH_take (i := 5) (v := ?_) rfl (by kernel_rfl) (by kernel_rfl) (by kernel_rfl) (fun _ _ _ h => h) (Or.inl ⟨by rfl, ?_⟩) hS ?_); rotate_left; (focus (intro w' hSw; (have ec := fun j => cell_of_row w' B9 j _ _ _ hSw.1); (have ev := fun j => cell_of_row w' B11 j _ _ _ hSw.2); go_simp; (try with_reducible rfl)))
  (refine wpAnyH_take (i := 6) (v := ?_) rfl (by kernel_rfl) (by kernel_rfl) (by kernel_rfl) (fun _ _ _ h => h) (Or.inl ⟨by rfl, ?_⟩) hS ?_); rotate_left; (focus (intro w' hSw; (have ec := fun j => cell_of_row w' B9 j _ _ _ hSw.1); (have ev := fun j => cell_of_row w' B11 j _ _ _ hSw.2); go_simp; (try with_reducible rfl)))
  (refine wpAnyH_take (i := 7) (v := ?_) rfl (by kernel_rfl) (by kernel_rfl) (by kernel_rfl) (fun _ _ _ h => h) (Or.inl ⟨by rfl, ?_⟩) hS ?_); rotate_left; (focus (intro w' hSw; (have ec := fun j => cell_of_row w' B9 j _ _ _ hSw.1); (have ev := fun j => cell_of_row w' B11 j _ _ _ hSw.2); go_simp; (try with_reducible rfl)))
  refine wpAnyH_ready (rs := [3]) (by kernel_rfl) (by simp) ?_
  refine AllReadyH.cons rfl (fun K hK => ?_) AllReadyH.nil
  go_simp
  refine cp.mono ?_
  rintro e w6 ⟨Br, Bw, rfl, hB6, hP6⟩
  have hS6 : w6.heap[B9]? = some (.cells #[.int .i64 5, .bool vw, .int .i64 0, .string ⟨#[]⟩, .slice ob bl bc, .slice ow wl wc, .int .u64 ba, .int .i64 fr, .int .i64 ln] 50) ∧ w6.heap[B11]? = some (.cells #[.int .i64 vk, .int .i64 va, .int .u64 vb, .string vt, .int .u64 vr] 33) := ⟨(hB6.block B9 (lt_get hS.1)).trans hS.1, (hB6.block B11 (lt_get hS.2)).trans hS.2⟩
  have cv := HV.out w6 Br Bw (hBd.trans (hB6.mono hBd.size)) hP6
  refine hK.out _ _ hS6 (fun _ => ?_)
  clear hK K cp hS
  have hS := hS6
  (refine wpAnyH_take (i := 4) (v := ?_) rfl (by kernel_rfl) (by kernel_rfl) (by kernel_rfl) (fun _ _ _ h => h) (Or.inl ⟨by rfl, ?_⟩) hS ?_); rotate_left; (focus (intro w' hSw; go_simp; (try with_reducible rfl)))
  refine wpAnyH_ready (rs := [8]) (by kernel_rfl) (by simp) ?_
  refine AllReadyH.cons rfl (fun K hK => ?_) AllReadyH.nil
  go_simp
  refine cv.mono ?_
  rintro e w7 ⟨rfl, hU7, hP7⟩
  have hS7 : w7.heap[B9]? = some (.cells #[.int .i64 5, .bool vw, .int .i64 0, .string ⟨#[]⟩, .slice ob bl bc, .slice ow wl wc, .int .u64 ba, .int .i64 fr, .int .i64 ln] 50) ∧ w7.heap[B11]? = some (.cells #[.int .i64 vk, .int .i64 va, .int .u64 vb, .string vt, .int .u64 vr] 33) := ⟨(hU7.block B9 (lt_get hS.1) nT.out.1).trans hS.1, (hU7.block B11 (lt_get hS.2) nT.out.2).trans hS.2⟩
  have hUW : Upd T W w7 := (Upd.of_below (hBd.trans (hB6.mono hBd.size))).trans' hU7
  refine hK.out _ _ hS7 (fun _ => ?_)
  clear hK K cv hS hS6
  have hS := hS7
  (refine wpAnyH_take (i := 9) (v := ?_) rfl (by kernel_rfl) (by kernel_rfl) (by kernel_rfl) (fun _ _ _ h => h) (Or.inl ⟨by rfl, ?_⟩) hS ?_); rotate_left; (focus (intro w' hSw; go_simp; (try with_reducible rfl)))
  refine wpAnyH_done (by kernel_rfl) ?_ _
  go_wp2
  go_ret
  exact ⟨rfl, hUW, hP7⟩
set_option maxRecDepth 100000 in
set_option maxHeartbeats 1000000 in
/-- Store, over what Unbox answers and what the pair does -/
theorem store_narrows {w : Nat} {k2 : Int} {t p n : Nat} {bs : List Nat} (g : HLay W hb sb vc T H u h) (s : Spot H w 6 t p n k2 bs) (i : Nat) (hi : i * 4 + 4 ≤ n) (xw vk va vb vr : Int) (vt : ByteArray)
    (hun : ∀ w2, Below W.heap.size W w2 → Calls Tryz.prog 25 #[.pointer (some ⟨hb, 0, none⟩), .int .u64 xw] w2 fun e w' => e = .returned (.tuple #[.agg #[.int .i64 vk, .int .i64 va, .int .u64 vb, .string vt, .int .u64 vr], .int .i64 0]) ∧ Below w2.heap.size w2 w')
    (code : Int) (P : World → Prop) (hcl : ∀ w4 Br Bw, Below W.heap.size W w4 → PairAt w4 Br Bw hb w 4 → Calls Tryz.prog 89 #[.int .i64 i, .int .u64 xw, .agg #[.int .i64 vk, .int .i64 va, .int .u64 vb, .string vt, .int .u64 vr], .pointer (some ⟨Bw, 0, none⟩)] w4 fun e w' => e = .returned (.int .i64 code) ∧ Upd T w4 w' ∧ P w') :
    Calls Tryz.prog 7 #[.pointer (some ⟨hb, 0, none⟩), .int .u64 w, .int .i64 i, .int .u64 xw] W fun e w' => e = .returned (.int .i64 code) ∧ Upd T W w' ∧ P w' := by
  obtain ⟨id, c, hit0, hc, hth, hk0, hcn⟩ := spot_thing s (by decide)
  have hcnt : i < c.cnt := by rw [hcn]; show i < n / 4; omega
  have ce := elem_c g w s.w64 id hit0 c hc hth i (by omega) (by omega)
  unfold ThPost at ce
  rw [hk0] at ce
  have hl8 : bs.length ≤ 8388608 := (g.ok t _ s.cell).2.2
  have hiw : IntKind.i64.wrap (i : Int) = i := by have := s.fit; rw [IntKind.wrap_i64]; omega
  have HV := hid hcl
  have HU := hid hun
  have HT : Hid (∀ k, T k → k < W.heap.size) := hid g.tlt
  generalize c.cl.view = vw at *
  generalize c.bl = bl at *
  generalize c.wl = wl at *
  generalize c.cl.base = ba at *
  generalize c.cl.frm = fr at *
  generalize c.cl.len = ln at *
  clear g s hi hcl hun hc hth hk0 hcn hcnt hit0 hl8
  go_enter Tryz.func7, Tryz.ntmps7
  go_upto_region 2 with (go_at_call 24; (with_reducible refine ce.mono ?_); rintro e w2 ⟨ob, bc, ow, wc, rfl, hB2, ho⟩; clear ce ho)
  have hB3 : Below w2.heap.size w2 (w2.alloc (.cells #[.int .i64 6, .bool vw, .int .i64 0, .string ⟨#[]⟩, .slice ob bl bc, .slice ow wl wc, .int .u64 ba, .int .i64 fr, .int .i64 ln] 50)) := (Below.refl _ w2).alloc (Nat.le_refl _) _
  have f3 := World.alloc_heap_new w2 (.cells #[.int .i64 6, .bool vw, .int .i64 0, .string ⟨#[]⟩, .slice ob bl bc, .slice ow wl wc, .int .u64 ba, .int .i64 fr, .int .i64 ln] 50)
  have hbel := hB2.trans (hB3.mono hB2.size)
  have hz2 := hB2.size
  generalize w2.alloc (.cells #[.int .i64 6, .bool vw, .int .i64 0, .string ⟨#[]⟩, .slice ob bl bc, .slice ow wl wc, .int .u64 ba, .int .i64 fr, .int .i64 ln] 50) = w3 at *
  generalize w2.heap.size = B9 at *
  have cu := HU.out w3 hbel
  go_upto_region 5 with (go_at_call 25; (with_reducible refine cu.mono ?_); rintro e w4 ⟨rfl, hB4⟩; clear cu)
  have hB5 : Below w4.heap.size w4 (w4.alloc (.cells #[.int .i64 vk, .int .i64 va, .int .u64 vb, .string vt, .int .u64 vr] 33)) := (Below.refl _ w4).alloc (Nat.le_refl _) _
  have f5 := World.alloc_heap_new w4 (.cells #[.int .i64 vk, .int .i64 va, .int .u64 vb, .string vt, .int .u64 vr] 33)
  have f35 : (w4.alloc (.cells #[.int .i64 vk, .int .i64 va, .int .u64 vb, .string vt, .int .u64 vr] 33)).heap[B9]? = some (.cells #[.int .i64 6, .bool vw, .int .i64 0, .string ⟨#[]⟩, .slice ob bl bc, .slice ow wl wc, .int .u64 ba, .int .i64 fr, .int .i64 ln] 50) := (hB5.block B9 (Nat.lt_of_lt_of_le (lt_get f3) hB4.size)).trans ((hB4.block B9 (lt_get f3)).trans f3)
  have hbel5 := (hbel.trans (hB4.mono hbel.size)).trans (hB5.mono (Nat.le_trans hbel.size hB4.size))
  have hz4 : W.heap.size ≤ w4.heap.size := Nat.le_trans hbel.size hB4.size
  generalize w4.alloc (.cells #[.int .i64 vk, .int .i64 va, .int .u64 vb, .string vt, .int .u64 vr] 33) = w5 at *
  generalize w4.heap.size = B11 at *
  have nT : Hid (¬ T B9 ∧ ¬ T B11) := hid ⟨fun e => by have := HT.out _ e; omega, fun e => by have := HT.out _ e; omega⟩
  clear hB4 hB5 hB2 hB3 hbel f3 HU hz2 hz4 HT
  go_upto_region 7 with fail
  have hBd : Below W.heap.size W w5.drew := ⟨hbel5.os, hbel5.tape, hbel5.output, hbel5.size, hbel5.block⟩
  have pf := fun f g cs ds w => pair_f1 f g cs ds w
  have cp := pairOf_narrows w5.drew hb w vw ob ow bl bc wl wc ba fr ln
  refine wp_region_held_drew (S := fun w' => w'.heap[B9]? = some (.cells #[.int .i64 6, .bool vw, .int .i64 0, .string ⟨#[]⟩, .slice ob bl bc, .slice ow wl wc, .int .u64 ba, .int .i64 fr, .int .i64 ln] 50) ∧ w'.heap[B11]? = some (.cells #[.int .i64 vk, .int .i64 va, .int .u64 vb, .string vt, .int .u64 vr] 33)) (by kernel_rfl) ⟨f35, f5⟩ ?_
  intro hS
  (refine wpAnyH_take (i := 0) (v := ?_) rfl (by kernel_rfl) (by kernel_rfl) (by kernel_rfl) (fun _ _ _ h => h) (Or.inl ⟨by rfl, ?_⟩) hS ?_); rotate_left; (focus (intro w' hSw; (have ec := fun j => cell_of_row w' B9 j _ _ _ hSw.1); (have ev := fun j => cell_of_row w' B11 j _ _ _ hSw.2); go_simp; (try with_reducible rfl)))
  (refine wpAnyH_take (i := 1) (v := ?_) rfl (by kernel_rfl) (by kernel_rfl) (by kernel_rfl) (fun _ _ _ h => h) (Or.inl ⟨by rfl, ?_⟩) hS ?_); rotate_left; (focus (intro w' hSw; (have ec := fun j => cell_of_row w' B9 j _ _ _ hSw.1); (have ev := fun j => cell_of_row w' B11 j _ _ _ hSw.2); go_simp; (try with_reducible rfl)))
  (refine wpAnyH_take (i := 2) (v := ?_) rfl (by kernel_rfl) (by kernel_rfl) (by kernel_rfl) (fun _ _ _ h => h) (Or.inl ⟨by rfl, ?_⟩) hS ?_); rotate_left; (focus (intro w' hSw; (have ec := fun j => cell_of_row w' B9 j _ _ _ hSw.1); (have ev := fun j => cell_of_row w' B11 j _ _ _ hSw.2); go_simp; (try with_reducible rfl)))
  (refine wpAnyH_take (i := 5) (v := ?_) rfl (by kernel_rfl) (by kernel_rfl) (by kernel_rfl) (fun _ _ _ h => h) (Or.inl ⟨by rfl, ?_⟩) hS ?_); rotate_left; (focus (intro w' hSw; (have ec := fun j => cell_of_row w' B9 j _ _ _ hSw.1); (have ev := fun j => cell_of_row w' B11 j _ _ _ hSw.2); go_simp; (try with_reducible rfl)))
  (refine wpAnyH_take (i := 6) (v := ?_) rfl (by kernel_rfl) (by kernel_rfl) (by kernel_rfl) (fun _ _ _ h => h) (Or.inl ⟨by rfl, ?_⟩) hS ?_); rotate_left; (focus (intro w' hSw; (have ec := fun j => cell_of_row w' B9 j _ _ _ hSw.1); (have ev := fun j => cell_of_row w' B11 j _ _ _ hSw.2); go_simp; (try with_reducible rfl)))
  (refine wpAnyH_take (i := 7) (v := ?_) rfl (by kernel_rfl) (by kernel_rfl) (by kernel_rfl) (fun _ _ _ h => h) (Or.inl ⟨by rfl, ?_⟩) hS ?_); rotate_left; (focus (intro w' hSw; (have ec := fun j => cell_of_row w' B9 j _ _ _ hSw.1); (have ev := fun j => cell_of_row w' B11 j _ _ _ hSw.2); go_simp; (try with_reducible rfl)))
  refine wpAnyH_ready (rs := [3]) (by kernel_rfl) (by simp) ?_
  refine AllReadyH.cons rfl (fun K hK => ?_) AllReadyH.nil
  go_simp
  refine cp.mono ?_
  rintro e w6 ⟨Br, Bw, rfl, hB6, hP6⟩
  have hS6 : w6.heap[B9]? = some (.cells #[.int .i64 6, .bool vw, .int .i64 0, .string ⟨#[]⟩, .slice ob bl bc, .slice ow wl wc, .int .u64 ba, .int .i64 fr, .int .i64 ln] 50) ∧ w6.heap[B11]? = some (.cells #[.int .i64 vk, .int .i64 va, .int .u64 vb, .string vt, .int .u64 vr] 33) := ⟨(hB6.block B9 (lt_get hS.1)).trans hS.1, (hB6.block B11 (lt_get hS.2)).trans hS.2⟩
  have cv := HV.out w6 Br Bw (hBd.trans (hB6.mono hBd.size)) hP6
  refine hK.out _ _ hS6 (fun _ => ?_)
  clear hK K cp hS
  have hS := hS6
  (refine wpAnyH_take (i := 4) (v := ?_) rfl (by kernel_rfl) (by kernel_rfl) (by kernel_rfl) (fun _ _ _ h => h) (Or.inl ⟨by rfl, ?_⟩) hS ?_); rotate_left; (focus (intro w' hSw; go_simp; (try with_reducible rfl)))
  refine wpAnyH_ready (rs := [8]) (by kernel_rfl) (by simp) ?_
  refine AllReadyH.cons rfl (fun K hK => ?_) AllReadyH.nil
  go_simp
  refine cv.mono ?_
  rintro e w7 ⟨rfl, hU7, hP7⟩
  have hS7 : w7.heap[B9]? = some (.cells #[.int .i64 6, .bool vw, .int .i64 0, .string ⟨#[]⟩, .slice ob bl bc, .slice ow wl wc, .int .u64 ba, .int .i64 fr, .int .i64 ln] 50) ∧ w7.heap[B11]? = some (.cells #[.int .i64 vk, .int .i64 va, .int .u64 vb, .string vt, .int .u64 vr] 33) := ⟨(hU7.block B9 (lt_get hS.1) nT.out.1).trans hS.1, (hU7.block B11 (lt_get hS.2) nT.out.2).trans hS.2⟩
  have hUW : Upd T W w7 := (Upd.of_below (hBd.trans (hB6.mono hBd.size))).trans' hU7
  refine hK.out _ _ hS7 (fun _ => ?_)
  clear hK K cv hS hS6
  have hS := hS7
  (refine wpAnyH_take (i := 9) (v := ?_) rfl (by kernel_rfl) (by kernel_rfl) (by kernel_rfl) (fun _ _ _ h => h) (Or.inl ⟨by rfl, ?_⟩) hS ?_); rotate_left; (focus (intro w' hSw; go_simp; (try with_reducible rfl)))
  refine wpAnyH_done (by kernel_rfl) ?_ _
  go_wp2
  go_ret
  exact ⟨rfl, hUW, hP7⟩
end
end Go.Proofs.YtikgicepdalfpaaGreat.W
/- Doubles in plain words, for packages that import Plain: Fl's text. -/
namespace Go.Proofs.YtikgicepdalfpaaGreat.W.Sf
open Ieee
theorem D_sign : Ieee.double.signWeight = 9223372036854775808 := by decide
theorem D_bin : Ieee.double.binade = 4503599627370496 := by decide
theorem D_inf : Ieee.double.infRung = 9218868437227405312 := by decide
theorem D_least : Ieee.double.leastPlace = -1074 := by decide
theorem D_width : Ieee.double.width = 64 := by decide

theorem word_eq (s : Bool) (r : Nat) : Ieee.double.word s r = (if s then 9223372036854775808 else 0) + r := by
  unfold Format.word
  rw [D_sign]
  cases s <;> simp

theorem read_eq (x : Nat) : Ieee.double.read x =
    if x % 9223372036854775808 < 4503599627370496 then .number (x / 9223372036854775808 % 2 == 1) (x % 9223372036854775808) (-1074)
    else if x % 9223372036854775808 < 9218868437227405312 then
      .number (x / 9223372036854775808 % 2 == 1) (4503599627370496 + x % 9223372036854775808 % 4503599627370496) (-1074 + (x % 9223372036854775808 / 4503599627370496 - 1 : Nat))
    else if x % 9223372036854775808 = 9218868437227405312 then .infinity (x / 9223372036854775808 % 2 == 1)
    else .nan (x / 9223372036854775808 % 2 == 1) (x % 9223372036854775808 - 9218868437227405312) := by
  unfold Format.read
  simp only [D_sign, D_bin, D_inf, D_least]

theorem nan_read (x : Nat) : (Ieee.double.read x).isNaN = nanB x := by
  rw [read_eq, nanB]
  have e : ((x : Int) % 9223372036854775808) = ((x % 9223372036854775808 : Nat) : Int) := by omega
  rw [e]
  split
  · rename_i h; simp [Datum.isNaN]; omega
  · split
    · rename_i h; simp [Datum.isNaN]; omega
    · split
      · rename_i h; simp [Datum.isNaN]; omega
      · rename_i h1 h2 h3; simp [Datum.isNaN]; omega

theorem order_self (d : Datum) : (d.order d != some .eq) = d.isNaN := by
  cases d with
  | number s m i => simp [Datum.order, Datum.isNaN, compare, compareOfLessAndEq]
  | infinity s => cases s <;> rfl
  | nan s t => rfl

theorem isNaN_eq (x : Nat) : (Ieee.double.order x x != some .eq) = nanB x := by
  rw [← nan_read]; exact order_self _

/-- a word whose rung is not above infinity's is no NaN -/
theorem word_plain (s : Bool) (r : Nat) (h : r ≤ 9218868437227405312) : nanB (Ieee.double.word s r : Nat) = false := by
  rw [word_eq, nanB]
  cases s <;> simp <;> omega
theorem nearest_plain (s : Bool) (m : Nat) (p : Int) : nanB (Ieee.double.nearest s m p : Nat) = false := by
  unfold Format.nearest
  split
  · exact word_plain _ _ (by omega)
  · rw [D_inf]; exact word_plain _ _ (Nat.min_le_right ..)
theorem write_plain (d : Datum) (h : d.isNaN = false) : nanB (Ieee.double.write d : Nat) = false := by
  cases d with
  | number s m p => exact nearest_plain s m p
  | infinity s => exact word_plain s _ (by rw [D_inf]; omega)
  | nan s t => exact absurd h (by simp [Datum.isNaN])
theorem write_lt (d : Datum) : Ieee.double.write d < 18446744073709551616 := by
  have := Ieee.double.write_lt d
  rwa [D_width] at this

theorem sum_plain {a b d : Datum} (h : a.sum b = some d) : d.isNaN = false := by
  cases a <;> cases b <;> simp [Datum.sum] at h <;> (try (rcases h with ⟨_, h⟩)) <;> (try subst h) <;> rfl
theorem product_plain {a b d : Datum} (h : a.product b = some d) : d.isNaN = false := by
  cases a <;> cases b <;> simp [Datum.product] at h <;> (try (rcases h with ⟨_, h⟩)) <;> (try subst h) <;> rfl
theorem quotient_plain {k : Nat} {a b d : Datum} (h : a.quotient k b = some d) : d.isNaN = false := by
  cases a with
  | nan s t => simp [Datum.quotient] at h
  | infinity s => cases b <;> simp [Datum.quotient] at h <;> subst h <;> rfl
  | number s m i =>
    cases b with
    | nan t u => simp [Datum.quotient] at h
    | infinity t => simp [Datum.quotient] at h; subst h; rfl
    | number t n j =>
      simp only [Datum.quotient] at h
      split at h
      · split at h
        · cases h
        · cases h; rfl
      · cases h; rfl

theorem floatBits_plain {op : BinOp} {x y r : Nat} (h : floatBits op .f64 x y = some r) : nanB (r : Int) = false := by
  unfold floatBits at h
  have go : ∀ o : Option Datum, (∀ d, o = some d → d.isNaN = false) → o.map Ieee.double.write = some r → nanB (r : Int) = false := by
    intro o ho hm
    cases o with
    | none => cases hm
    | some d => cases hm; exact write_plain d (ho d rfl)
  split at h
  · exact go _ (fun d => sum_plain) h
  · exact go _ (fun d => sum_plain) h
  · exact go _ (fun d => product_plain) h
  · exact go _ (fun d => quotient_plain) h
  · cases h
theorem floatBits_lt {op : BinOp} {x y r : Nat} (h : floatBits op .f64 x y = some r) : r < 18446744073709551616 := by
  have := floatBits_wf h
  simpa [Lit.wf] using this

/-- a NaN that the tape names is a NaN -/
theorem nanBits_nan (x y t : Nat) : nanB ((Question.nanBits .f64 x y).cut t : Nat) = true := by
  show decide (9218868437227405312 < (((t % 2) * 9223372036854775808 + 9218868437227405312 + 1 + (t / 2) % 4503599627370495 : Nat) : Int) % 9223372036854775808) = true
  rw [decide_eq_true_eq]
  have h1 : t / 2 % 4503599627370495 < 4503599627370495 := Nat.mod_lt _ (by omega)
  have h2 : t % 2 = 0 ∨ t % 2 = 1 := by omega
  generalize t / 2 % 4503599627370495 = q at *
  generalize t % 2 = s at *
  rcases h2 with rfl | rfl <;> omega
theorem nanBits_lt (x y t : Nat) : (Question.nanBits .f64 x y).cut t < 18446744073709551616 := by
  show (t % 2) * 9223372036854775808 + 9218868437227405312 + 1 + (t / 2) % 4503599627370495 < _
  omega

/-- what an operation on two patterns answers -/
def opI (op : BinOp) (a b : Int) : Int := match floatBits op .f64 a.toNat b.toNat with | some r => (r : Int) | none => 9221120237041090560
theorem opI_range (op : BinOp) (a b : Int) : 0 ≤ opI op a b ∧ opI op a b < 18446744073709551616 := by
  unfold opI
  split
  · rename_i r h; have := floatBits_lt h; omega
  · omega
theorem opI_plain (op : BinOp) (a b : Int) : nanB (opI op a b) = true → opI op a b = 9221120237041090560 := by
  unfold opI
  split
  · rename_i r h; intro hn; rw [floatBits_plain h] at hn; cases hn
  · intro _; rfl

/-! ### the walk's laws -/
/-- what '+', '-', '*', '/' on doubles give: the bits, or a NaN that the tape names -/
def fres (op : BinOp) (x y : Nat) (w : World) : Nat :=
  match floatBits op .f64 x y with | some r => r | none => (Question.nanBits .f64 x y).cut (w.tape w.drawn (.nanBits .f64 x y))
def fdraw (op : BinOp) (x y : Nat) : Nat := match floatBits op .f64 x y with | some _ => 0 | none => 1
theorem fres_lt (op : BinOp) (x y : Nat) (w : World) : fres op x y w < 18446744073709551616 := by
  unfold fres
  split
  · rename_i r h; exact floatBits_lt h
  · exact nanBits_lt ..
theorem fltW_fres (op : BinOp) (a b : Int) (w : World) : fltW (fres op a.toNat b.toNat w : Nat) = opI op a b := by
  unfold fres opI
  split
  · rename_i r h; rw [fltW, floatBits_plain h]; simp
  · rw [fltW, nanBits_nan]; simp

theorem run_fop (P : Program) (op : BinOp) (hop : op = .add ∨ op = .sub ∨ op = .mul ∨ op = .quo) (t : TypeId) (x y : Nat) (w : World) :
    (binOp op t (.float .f64 x) (.float .f64 y)).run P w = .ok (.float .f64 (fres op x y w)) (w.drewN (fdraw op x y)) := by
  cases h : floatBits op .f64 x y with
  | some r =>
    rw [run_float_arith w op t .f64 x y r h]
    simp [fres, fdraw, h, World.drewN_zero]
  | none =>
    have e1 : fres op x y w = (Question.nanBits .f64 x y).cut (w.tape w.drawn (.nanBits .f64 x y)) := by simp [fres, h]
    have e2 : fdraw op x y = 1 := by simp [fdraw, h]
    rw [e1, e2]
    rcases hop with rfl | rfl | rfl | rfl <;> simp only [floatBits] at h <;> simp [binOp, Op.floatArith, h, World.drew_is_drewN, Question.forced]

/-! ### Floor, and widths -/
theorem nan_write (s : Bool) (t : Nat) (h : t % 4503599627370496 ≠ 0) : nanB (Ieee.double.write (.nan s t) : Nat) = true := by
  have e : Ieee.double.write (.nan s t) = Ieee.double.word s (Ieee.double.infRung + t % Ieee.double.binade) := rfl
  rw [e, word_eq, D_inf, D_bin, nanB, decide_eq_true_eq]
  have : t % 4503599627370496 < 4503599627370496 := Nat.mod_lt _ (by omega)
  cases s <;> simp <;> omega
theorem quiet_mod (t : Nat) : Ieee.double.quiet t % 4503599627370496 ≠ 0 := by
  have e : Ieee.double.quiet t = t ||| 2 ^ 51 := rfl
  rw [e]
  intro h
  have h1 : ((t ||| 2 ^ 51) % 2 ^ 52).testBit 51 = true := by
    rw [Nat.testBit_mod_two_pow, Nat.testBit_or, Nat.testBit_two_pow_self]
    simp
  rw [show (2 : Nat) ^ 52 = 4503599627370496 from by decide, h] at h1
  simp at h1

/-- what Floor answers -/
def floorI (a : Int) : Int := if nanB a = true then 9221120237041090560 else (Ieee.double.write ((Ieee.double.read a.toNat).integral .down) : Nat)
/-- what the machine's own floor hands back: of a NaN that is not quiet the tape says which NaN -/
def flres (P : Program) (x : Nat) (w : World) : Nat :=
  match (Extern.MathFloor.toIntegral "math.archFloor" .down #[.float .f64 x]).run P w with
  | .ok (.float _ r) _ => r
  | _ => 0
def fldraw (x : Nat) : Nat :=
  match Ieee.double.read x with
  | .nan _ t => if Ieee.double.quiet t = t then 0 else 1
  | _ => 0
theorem integral_plain (way : Toward) (d : Datum) : (d.integral way).isNaN = d.isNaN := by cases d <;> rfl
/-- the entry's text, with the question that it asks of a NaN that is not quiet -/
theorem floor_text : ∃ q : Question, (∀ x, Extern.MathFloor.toIntegral "math.archFloor" .down #[.float .f64 x] =
      (match Ieee.double.read x with
      | .nan s t =>
        if Ieee.double.quiet t = t then pure (.float .f64 x) else do
        let kept ← choose q
        pure (.float .f64 (if kept == 1 then x else Ieee.double.write (.nan s (Ieee.double.quiet t))))
      | d => pure (.float .f64 (Ieee.double.write (d.integral .down))) : Sem Value)) ∧ q.forced = false :=
  ⟨_, fun _ => rfl, rfl⟩
theorem floor_run (P : Program) (x : Nat) (w : World) : ∃ r, (Extern.MathFloor.toIntegral "math.archFloor" .down #[.float .f64 x]).run P w = .ok (.float .f64 r) (w.drewN (fldraw x)) ∧
    (x < 18446744073709551616 → r < 18446744073709551616) ∧ (nanB (x : Nat) = true → nanB (r : Nat) = true) ∧ (nanB (x : Nat) = false → r = Ieee.double.write ((Ieee.double.read x).integral .down)) := by
  have hn := nan_read x
  obtain ⟨q, hq, hf⟩ := floor_text
  rw [hq x]
  unfold fldraw
  cases hd : Ieee.double.read x with
  | number s m i =>
    rw [hd] at hn
    refine ⟨Ieee.double.write ((Datum.number s m i).integral .down), by simp [World.drewN_zero], fun _ => write_lt _, fun h => ?_, fun _ => rfl⟩
    rw [← hn] at h; cases h
  | infinity s =>
    rw [hd] at hn
    refine ⟨Ieee.double.write ((Datum.infinity s).integral .down), by simp [World.drewN_zero], fun _ => write_lt _, fun h => ?_, fun _ => rfl⟩
    rw [← hn] at h; cases h
  | nan s t =>
    rw [hd] at hn
    have hn' : nanB (x : Nat) = true := by rw [← hn]; rfl
    have h2 : nanB (Ieee.double.write (.nan s (Ieee.double.quiet t)) : Nat) = true := nan_write s _ (quiet_mod t)
    by_cases h : Ieee.double.quiet t = t
    · refine ⟨x, by simp [h, World.drewN_zero], fun hx => hx, fun _ => hn', fun g => ?_⟩
      rw [hn'] at g; cases g
    · refine ⟨if q.cut (w.tape w.drawn q) == 1 then x else Ieee.double.write (.nan s (Ieee.double.quiet t)), by simp [h, hf, World.drew_is_drewN], ?_, ?_, fun g => ?_⟩
      · intro hx; split
        · exact hx
        · exact write_lt _
      · intro _; split
        · exact hn'
        · exact h2
      · rw [hn'] at g; cases g
theorem flres_eq (P : Program) (x : Nat) (w : World) : (Extern.MathFloor.toIntegral "math.archFloor" .down #[.float .f64 x]).run P w = .ok (.float .f64 (flres P x w)) (w.drewN (fldraw x)) ∧
    (x < 18446744073709551616 → flres P x w < 18446744073709551616) ∧ (nanB (x : Nat) = true → nanB (flres P x w : Nat) = true) ∧ (nanB (x : Nat) = false → flres P x w = Ieee.double.write ((Ieee.double.read x).integral .down)) := by
  obtain ⟨r, h1, h2, h3, h4⟩ := floor_run P x w
  have e : flres P x w = r := by unfold flres; rw [h1]
  rw [e]
  exact ⟨h1, h2, h3, h4⟩
theorem fltW_flres (P : Program) (a : Int) (h0 : 0 ≤ a) (w : World) : fltW (flres P a.toNat w : Nat) = floorI a := by
  obtain ⟨-, -, h3, h4⟩ := flres_eq P a.toNat w
  rw [Int.toNat_of_nonneg h0] at h3 h4
  unfold floorI
  cases hn : nanB a with
  | true => rw [fltW, h3 hn, if_pos rfl, if_pos rfl]
  | false =>
    rw [h4 hn]
    have hp : nanB (Ieee.double.write ((Ieee.double.read a.toNat).integral .down) : Nat) = false := write_plain _ (by rw [integral_plain, nan_read, Int.toNat_of_nonneg h0, hn])
    rw [fltW, hp]
theorem flres_lt (P : Program) (x : Nat) (hx : x < 18446744073709551616) (w : World) : flres P x w < 18446744073709551616 := (flres_eq P x w).2.1 hx
theorem floorI_range (a : Int) : 0 ≤ floorI a ∧ floorI a < 18446744073709551616 := by
  unfold floorI
  split
  · omega
  · have := write_lt ((Ieee.double.read a.toNat).integral .down); omega
theorem run_floor (P : Program) (x : Nat) (w : World) :
    (Extern.MathFloor.toIntegral "math.archFloor" .down #[.float .f64 x]).run P w = .ok (.float .f64 (flres P x w)) (w.drewN (fldraw x)) := (flres_eq P x w).1

/-- what Wide answers -/
def wideI (n : Int) : Int := if (Ieee.single.read n.toNat).isNaN = true then 9221120237041090560 else (Ieee.double.write (Ieee.single.read n.toNat) : Nat)
def wres (x : Nat) (w : World) : Nat :=
  match Ieee.single.read x with
  | .nan _ _ => (Question.nanConv .f64 x).cut (w.tape w.drawn (.nanConv .f64 x))
  | d => Ieee.double.write d
def wdraw (x : Nat) : Nat := if (Ieee.single.read x).isNaN = true then 1 else 0
theorem wideI_range (a : Int) : 0 ≤ wideI a ∧ wideI a < 18446744073709551616 := by
  unfold wideI
  split
  · omega
  · have := write_lt (Ieee.single.read a.toNat); omega
theorem nanConv_nan (x t : Nat) : nanB ((Question.nanConv .f64 x).cut t : Nat) = true := nanBits_nan x x t
theorem nanConv_lt (x t : Nat) : (Question.nanConv .f64 x).cut t < 18446744073709551616 := nanBits_lt x x t
theorem wres_lt (x : Nat) (w : World) : wres x w < 18446744073709551616 := by
  unfold wres
  split
  · exact nanConv_lt ..
  · exact write_lt _
theorem fltW_wres (n : Int) (w : World) : fltW (wres n.toNat w : Nat) = wideI n := by
  unfold wres wideI
  cases Ieee.single.read n.toNat with
  | nan s t => simp [fltW, nanConv_nan, Datum.isNaN]
  | number s m i => simp [fltW, write_plain (.number s m i) rfl, Datum.isNaN]
  | infinity s => simp [fltW, write_plain (.infinity s) rfl, Datum.isNaN]
/-- a word of a wider format has room for every number of the narrower one -/
theorem run_wide (P : Program) (src dst : TypeId) (x : Nat) (hs : (P.underlying src).isSome = true) (hd : P.underlying dst = some (.float .f64))
    (hfin : ∀ s m i, Ieee.single.read x = .number s m i → (Ieee.double.read (Ieee.double.write (.number s m i))).isInfinity = false) (w : World) :
    (convert src dst (.float .f32 x)).run P w = .ok (.float .f64 (wres x w)) (w.drewN (wdraw x)) := by
  obtain ⟨u, hs'⟩ := Option.isSome_iff_exists.1 hs
  have e : (convert src dst (.float .f32 x)).run P w = (Conv.floatToFloat .f32 x .f64).run P w := by
    cases u <;> simp [convert, run_underlying hs', run_underlying hd]
  rw [e]
  unfold wres wdraw
  have e2 : Conv.floatToFloat .f32 x .f64 = (match Ieee.single.read x with
    | .nan _ _ => do pure (.float .f64 (← choose (.nanConv .f64 x)))
    | .infinity s => pure (.float .f64 (Ieee.double.write (.infinity s)))
    | .number s m e =>
      if (Ieee.double.read (Ieee.double.write (.number s m e))).isInfinity then do pure (.float .f64 (← choose (.floatToFloat x)))
      else pure (.float .f64 (Ieee.double.write (.number s m e))) : Sem Value) := rfl
  rw [e2]
  cases hr : Ieee.single.read x with
  | number s m i => simp [World.drewN_zero, Datum.isNaN, hfin s m i hr]
  | infinity s => simp [World.drewN_zero, Datum.isNaN]
  | nan s t => simp [World.drew_is_drewN, Question.forced, Datum.isNaN]
end Go.Proofs.YtikgicepdalfpaaGreat.W.Sf
