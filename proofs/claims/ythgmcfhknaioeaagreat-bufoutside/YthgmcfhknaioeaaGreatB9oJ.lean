import Derived.Test.YthgmcfhknaioeaaGreatB9nJ
/- Package buf: what a narrow is stored by. -/
namespace Go.Proofs.YthgmcfhknaioeaaGreat.W
open Go.ChangeShapes Go.WideShapes Go.RowKit Go.Shelf
set_option linter.unusedVariables false
section
variable {W W' : World} {hb sb : Nat} {vc : Value} {T : Nat → Prop} {H : List (Option Hc)} {u h : Nat}
theorem narrows2_c {w : Nat} {k2 : Int} {t p n Br Bw : Nat} {bs : List Nat} (g : HLay W hb sb vc T H u h) (s : Spot H w 6 t p n k2 bs) (r : PairAt W Br Bw hb w 4) (i : Nat) (hi : i * 4 + 4 ≤ n) (ha : (p + i * 4) % 4 = 0) (xw vk va vb vr : Int) (vt : ByteArray) (x : Nat) (b : Int) (hx64 : x < 18446744073709551616) (cn : ∀ w, Calls Tryz.prog 104 #[.int .u64 b] w fun e w' => e = .returned (.int .u32 (x : Nat)) ∧ Below w.heap.size w w') (ci : ∀ w, Calls Tryz.prog 100 #[.agg #[.int .i64 vk, .int .i64 va, .int .u64 vb, .string vt, .int .u64 vr]] w fun e w' => e = .returned (.tuple #[.int .u64 b, .int .i64 0]) ∧ Below w.heap.size w w') :
    Calls Tryz.prog 103 #[.int .i64 i, .int .u64 xw, .agg #[.int .i64 vk, .int .i64 va, .int .u64 vb, .string vt, .int .u64 vr], .pointer (some ⟨Bw, 0, none⟩)] W fun e w' => e = .returned (.int .i64 0) ∧ Upd T W w' ∧ HLay w' hb sb vc T (H.set t (some (.buf k2 (saved bs (p + i * 4) x 4)))) u h := by
  have hB1 : Below W.heap.size W (W.alloc (.cells #[.int .i64 vk, .int .i64 va, .int .u64 vb, .string vt, .int .u64 vr] 49)) := (Below.refl _ W).alloc (Nat.le_refl _) _
  have e1 := World.cell?_alloc_new W #[.int .i64 vk, .int .i64 va, .int .u64 vb, .string vt, .int .u64 vr] 49
  obtain ⟨Bh, Bx, Bd, hR, hr, hw⟩ := r.ex
  have hv : ∀ w2, Below W.heap.size W w2 → w2.cell? ⟨Bw, 0, none⟩ = some (.func (.func 130) #[] #[.pointer (some ⟨Bh, 0, none⟩), .pointer (some ⟨Bx, 0, none⟩), .pointer (some ⟨Bd, 0, none⟩)]) ∧ Calls Tryz.prog 130 #[.int .i64 i, .int .u64 (x : Nat), .pointer (some ⟨Bh, 0, none⟩), .pointer (some ⟨Bx, 0, none⟩), .pointer (some ⟨Bd, 0, none⟩)] w2 fun e w' => e = .returned (.int .i64 0) ∧ Hid (Upd T W w' ∧ HLay w' hb sb vc T (H.set t (some (.buf k2 (saved bs (p + i * 4) x 4)))) u h) := by
    intro w2 hB2
    refine ⟨(box_of (hB2.block _ hw.lt) hw).cell, (raw2_c (g.below hB2) s (hR.below hB2) (.inr (.inr (.inl rfl))) i hi ha _ hx64).mono ?_⟩
    rintro e w' ⟨rfl, hU, hL⟩
    exact ⟨rfl, (Upd.of_below hB2).trans' hU, hL⟩
  generalize (H.set t (some (.buf k2 (saved bs (p + i * 4) x 4)))) = HH at *
  have hcx : IntKind.u64.wrap ((x : Nat) : Int) = ((x : Nat) : Int) := by rw [IntKind.wrap_u64]; omega
  have HV := hid hv
  have HB1 := hid hB1
  clear g s r hi ha hx64 hv hB1 hR hr hw
  go_enter Tryz.func103, Tryz.ntmps103
  go_upto_region 4 with (go_at_call 100; (with_reducible refine (ci _).mono ?_); rintro e w2 ⟨rfl, hB2⟩; clear ci)
  have hB12 := HB1.out.trans (hB2.mono HB1.out.size)
  have hBd : Below W.heap.size W w2.drew := ⟨hB12.os, hB12.tape, hB12.output, hB12.size, hB12.block⟩
  have x1 := (HV.out w2 hB12).1
  have HD := hid hBd
  clear hBd hB12 hB2
  go_region_with (first | (go_at_call 104; (with_reducible refine (cn _).mono ?_); rintro e w3 ⟨rfl, hB3⟩; (obtain ⟨x3, cv⟩ := HV.out w3 (HD.out.trans (hB3.mono HD.out.size)))) | (go_at_call 130; (with_reducible refine cv.mono ?_); rintro e w4 ⟨rfl, hf⟩; clear cv))
  all_goals (
    go_wp2
    go_ret
    exact ⟨rfl, hf.out.1, hf.out.2⟩)
end
end Go.Proofs.YthgmcfhknaioeaaGreat.W
