import Derived.Test.YthgcdohndchdkaaGreatDoorO7bJ
/- OpsNoStray: the walk. -/
namespace Go.Proofs.YthgcdohndchdkaaGreatDoor.W.Nu
open Go.ChangeShapes Go.WideShapes Go.RowKit Go.Shelf
set_option linter.unusedVariables false
theorem class_b (n : Int) (h0 : 0 ≤ n) (h1 : n < 18446744073709551616) (k : Int) (hk : Go.Proofs.YthgcdohndchdkaaGreatDoor.W.cls n = k) (w : World) : Calls Tryz.prog 12 #[.int .u64 n] w fun e w' => e = .returned (.int .i64 k) ∧ Below w.heap.size w w' := by
  refine (refClass_c n h0 h1 w).mono ?_
  rintro e w' ⟨rfl, m, rfl⟩
  rw [hk]
  exact ⟨rfl, below_drewN w m⟩
set_option maxRecDepth 100000 in
set_option maxHeartbeats 1000000 in
theorem noStray_core (a b : Int) (a0 : 0 ≤ a) (a1 : a < 18446744073709551616) (b0 : 0 ≤ b) (b1 : b < 18446744073709551616) (op : ByteArray) (hop : ¬ (op.size : Int) > 100) (W : World) : Calls Tryz.prog 3 #[.int .u64 a, .int .u64 b, .string op] W fun e w' => e = .returned (.bool true) ∧ Below W.heap.size W w' := by
  have cn := hf_new (Below.refl W.heap.size W) 10 (by decide)
  rw [show ((10 : Nat) : Int) = 10 from rfl] at cn
  have fa := fltW_bd a a0 a1
  have fb := fltW_bd b b0 b1
  obtain ⟨x, hxe⟩ : ∃ x : Nat, Go.Proofs.YthgcdohndchdkaaGreatDoor.W.fltW a = (x : Int) := ⟨(Go.Proofs.YthgcdohndchdkaaGreatDoor.W.fltW a).toNat, (Int.toNat_of_nonneg fa.1).symm⟩
  obtain ⟨y, hye⟩ : ∃ y : Nat, Go.Proofs.YthgcdohndchdkaaGreatDoor.W.fltW b = (y : Int) := ⟨(Go.Proofs.YthgcdohndchdkaaGreatDoor.W.fltW b).toNat, (Int.toNat_of_nonneg fb.1).symm⟩
  have hx := hid (show Dbl x from ⟨by rw [← hxe]; exact fltW_cls a, by omega⟩)
  have hy := hid (show Dbl y from ⟨by rw [← hye]; exact fltW_cls b, by omega⟩)
  have ca : ∀ hb W1, _ := fun (hb : Nat) (W1 : World) => box_float (.pointer (some ⟨hb, 0, none⟩)) (.slice none 0 0) a a0 a1 W1
  have cb : ∀ hb W1, _ := fun (hb : Nat) (W1 : World) => box_float (.pointer (some ⟨hb, 0, none⟩)) (.slice none 0 0) b b0 b1 W1
  rw [hxe] at ca
  rw [hye] at cb
  replace ca := hid ca
  replace cb := hid cb
  clear fa fb hxe hye a0 a1 b0 b1
  go_enter Tryz.func3, Tryz.ntmps3
  go_upto_region 6 with (go_at_call 7; (with_reducible refine cn.mono ?_); rintro e W1 ⟨hb, rfl, q1, hB1⟩; (have HB := hid hB1); clear cn q1 hB1)
  have c1 := ca.out hb W1
  go_upto_region 7 with (go_at_call 8; (with_reducible refine c1.mono ?_); rintro e W2 ⟨rfl, hB2⟩; (replace HB := hid (HB.out.trans (hB2.mono HB.out.size))); clear c1 hB2)
  have c2 := cb.out hb W2
  go_upto_region 10 with (go_at_call 8; (with_reducible refine c2.mono ?_); rintro e W3 ⟨rfl, hB3⟩; (replace HB := hid (HB.out.trans (hB3.mono HB.out.size))); clear c2 hB3)
  have c3 := ns_any op W3 hb x y hx.out hy.out
  go_upto_region 11 with (go_at_call 9; (with_reducible refine c3.mono ?_); rintro e W4 ⟨⟨w, c, rfl, hok⟩, hB4⟩; (replace HB := hid (HB.out.trans (hB4.mono HB.out.size))); (replace hok := hid hok); clear c3 hB4)
  have c4 := un_neg W4 hb x hx.out
  go_upto_region 12 with (go_at_call 10; (with_reducible refine c4.mono ?_); rintro e W5 ⟨r, rfl, hr, hB5⟩; (replace HB := hid (HB.out.trans (hB5.mono HB.out.size))); (replace hr := hid hr); clear c4 hB5)
  have hB5 : Below W5.heap.size W5 (W5.alloc (.cells #[.int .u64 18445055223849287679] 22)) := (Below.refl _ W5).alloc (Nat.le_refl _) _
  have c5 := bin_frombits _ hb W5.heap.size (World.cell?_alloc_new W5 #[.int .u64 18445055223849287679] 22 0)
  replace HB := hid (HB.out.trans (hB5.mono HB.out.size))
  clear hB5
  go_upto_region 13 with (go_at_call 11; (with_reducible refine c5.mono ?_); rintro e W6 ⟨rfl, hB6⟩; (replace HB := hid (HB.out.trans (hB6.mono HB.out.size))); clear c5 hB6)
  have cC := fun w => class_b (Go.Proofs.YthgcdohndchdkaaGreatDoor.W.fltW r) (fltW_bd r hr.out.1 hr.out.2).1 (fltW_bd r hr.out.1 hr.out.2).2 1 (fltW_cls r) w
  go_upto_region 15 with (go_at_call 12; (with_reducible refine (cC _).mono ?_); rintro e Wc ⟨rfl, hBc⟩; (replace HB := hid (HB.out.trans (hBc.mono HB.out.size))); clear cC hBc)
  rcases hok.out with ⟨rfl, w0, w1, hc⟩ | ⟨rfl, rfl | rfl⟩
  · rcases hc with hc | hc
    · have cC := fun ww => class_b w w0 w1 1 hc ww
      clear w0 w1 hc
      go_wp2_with (first | (go_at_call 12; (with_reducible refine (cC _).mono ?_); rintro e Wc ⟨rfl, hBc⟩; (replace HB := hid (HB.out.trans (hBc.mono HB.out.size))); clear cC hBc) | (go_at_call 13; (with_reducible refine (awake10_c _).mono ?_); rintro e We ⟨rfl, hBe⟩))
      go_ret
      exact ⟨rfl, HB.out.trans (hBe.mono HB.out.size)⟩
    · have cC := fun ww => class_b w w0 w1 4 hc ww
      clear w0 w1 hc
      go_wp2_with (first | (go_at_call 12; (with_reducible refine (cC _).mono ?_); rintro e Wc ⟨rfl, hBc⟩; (replace HB := hid (HB.out.trans (hBc.mono HB.out.size))); clear cC hBc) | (go_at_call 13; (with_reducible refine (awake10_c _).mono ?_); rintro e We ⟨rfl, hBe⟩))
      go_ret
      exact ⟨rfl, HB.out.trans (hBe.mono HB.out.size)⟩
  · go_wp2_with (go_at_call 13; (with_reducible refine (awake10_c _).mono ?_); rintro e We ⟨rfl, hBe⟩)
    go_ret
    exact ⟨rfl, HB.out.trans (hBe.mono HB.out.size)⟩
  · go_wp2_with (go_at_call 13; (with_reducible refine (awake10_c _).mono ?_); rintro e We ⟨rfl, hBe⟩)
    go_ret
    exact ⟨rfl, HB.out.trans (hBe.mono HB.out.size)⟩
theorem opsNoStray_walk (a0 a1 : Int) (a2 : ByteArray) (w0 : (Lit.int .u64 a0).wf = true) (w1 : (Lit.int .u64 a1).wf = true) (w2 : a2.size ≤ maxLen) (W : World) : Calls Tryz.prog 3 #[.int .u64 a0, .int .u64 a1, .string a2] W fun e w' => e = .returned (.bool true) ∧ Below W.heap.size W w' := by
  by_cases h : (a2.size : Int) > 100
  · go_enter Tryz.func3, Tryz.ntmps3
    go_wp2
    go_ret
    exact ⟨rfl, Below.refl _ _⟩
  · exact noStray_core a0 a1 (wf_u64' w0).1 (wf_u64' w0).2 (wf_u64' w1).1 (wf_u64' w1).2 a2 h W
end Go.Proofs.YthgcdohndchdkaaGreatDoor.W.Nu
