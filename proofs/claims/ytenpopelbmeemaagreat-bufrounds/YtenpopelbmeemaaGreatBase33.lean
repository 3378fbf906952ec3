import Derived.Test.YtenpopelbmeemaaGreatBase32
import Derived.Test.YtenpopelbmeemaaGreatBase29
import Derived.BigQuiet
/- Package buf: what a narrow is stored by. -/
namespace Go.Proofs.YtenpopelbmeemaaGreat.W
open Go.ChangeShapes Go.WideShapes Go.RowKit Go.Shelf
set_option linter.unusedVariables false
section
variable {W W' : World} {hb sb : Nat} {vc : Value} {T : Nat → Prop} {H : List (Option Hc)} {u h : Nat}
theorem narrows2_c {w : Nat} {k2 : Int} {t p n Br Bw : Nat} {bs : List Nat} (g : HLay W hb sb vc T H u h) (s : Spot H w 6 t p n k2 bs) (r : PairAt W Br Bw hb w 4) (i : Nat) (hi : i * 4 + 4 ≤ n) (ha : (p + i * 4) % 4 = 0) (xw vk va vb vr : Int) (vt : ByteArray) (x : Nat) (b : Int) (hx64 : x < 18446744073709551616) (cn : ∀ w, Calls Tryz.prog 103 #[.int .u64 b] w fun e w' => e = .returned (.int .u32 (x : Nat)) ∧ Below w.heap.size w w') (ci : ∀ w, Calls Tryz.prog 99 #[.agg #[.int .i64 vk, .int .i64 va, .int .u64 vb, .string vt, .int .u64 vr]] w fun e w' => e = .returned (.tuple #[.int .u64 b, .int .i64 0]) ∧ Below w.heap.size w w') :
    Calls Tryz.prog 102 #[.int .i64 i, .int .u64 xw, .agg #[.int .i64 vk, .int .i64 va, .int .u64 vb, .string vt, .int .u64 vr], .pointer (some ⟨Bw, 0, none⟩)] W fun e w' => e = .returned (.int .i64 0) ∧ Upd T W w' ∧ HLay w' hb sb vc T (H.set t (some (.buf k2 (saved bs (p + i * 4) x 4)))) u h := by
  have hB1 : Below W.heap.size W (W.alloc (.cells #[.int .i64 vk, .int .i64 va, .int .u64 vb, .string vt, .int .u64 vr] 33)) := (Below.refl _ W).alloc (Nat.le_refl _) _
  have e1 := World.cell?_alloc_new W #[.int .i64 vk, .int .i64 va, .int .u64 vb, .string vt, .int .u64 vr] 33
  obtain ⟨Bh, Bx, Bd, hR, hr, hw⟩ := r.ex
  have hv : ∀ w2, Below W.heap.size W w2 → w2.cell? ⟨Bw, 0, none⟩ = some (.func (.func 133) #[] #[.pointer (some ⟨Bh, 0, none⟩), .pointer (some ⟨Bx, 0, none⟩), .pointer (some ⟨Bd, 0, none⟩)]) ∧ Calls Tryz.prog 133 #[.int .i64 i, .int .u64 (x : Nat), .pointer (some ⟨Bh, 0, none⟩), .pointer (some ⟨Bx, 0, none⟩), .pointer (some ⟨Bd, 0, none⟩)] w2 fun e w' => e = .returned (.int .i64 0) ∧ Hid (Upd T W w' ∧ HLay w' hb sb vc T (H.set t (some (.buf k2 (saved bs (p + i * 4) x 4)))) u h) := by
    intro w2 hB2
    refine ⟨(box_of (hB2.block _ hw.lt) hw).cell, (raw2_c (g.below hB2) s (hR.below hB2) (.inr (.inr (.inl rfl))) i hi ha _ hx64).mono ?_⟩
    rintro e w' ⟨rfl, hU, hL⟩
    exact ⟨rfl, (Upd.of_below hB2).trans' hU, hL⟩
  generalize (H.set t (some (.buf k2 (saved bs (p + i * 4) x 4)))) = HH at *
  have hcx : IntKind.u64.wrap ((x : Nat) : Int) = ((x : Nat) : Int) := by rw [IntKind.wrap_u64]; omega
  have HV := hid hv
  have HB1 := hid hB1
  clear g s r hi ha hx64 hv hB1 hR hr hw
  go_enter Tryz.func102, Tryz.ntmps102
  go_upto_region 4 with (go_at_call 99; (with_reducible refine (ci _).mono ?_); rintro e w2 ⟨rfl, hB2⟩; clear ci)
  have hB12 := HB1.out.trans (hB2.mono HB1.out.size)
  have hBd : Below W.heap.size W w2.drew := ⟨hB12.os, hB12.tape, hB12.output, hB12.size, hB12.block⟩
  have x1 := (HV.out w2 hB12).1
  have HD := hid hBd
  clear hBd hB12 hB2
  go_region_with (first | (go_at_call 103; (with_reducible refine (cn _).mono ?_); rintro e w3 ⟨rfl, hB3⟩; (obtain ⟨x3, cv⟩ := HV.out w3 (HD.out.trans (hB3.mono HD.out.size)))) | (go_at_call 133; (with_reducible refine cv.mono ?_); rintro e w4 ⟨rfl, hf⟩; clear cv))
  all_goals (
    go_wp2
    go_ret
    exact ⟨rfl, hf.out.1, hf.out.2⟩)
end
end Go.Proofs.YtenpopelbmeemaaGreat.W
/- Package buf: what a narrow is stored by, whatever Narrow answers. -/
namespace Go.Proofs.YtenpopelbmeemaaGreat.W
open Go.ChangeShapes Go.WideShapes Go.RowKit Go.Shelf
set_option linter.unusedVariables false
section
variable {W W' : World} {hb sb : Nat} {vc : Value} {T : Nat → Prop} {H : List (Option Hc)} {u h : Nat}
theorem narrows2_any (P : Nat → Prop) {w : Nat} {k2 : Int} {t p n Br Bw : Nat} {bs : List Nat} (g : HLay W hb sb vc T H u h) (s : Spot H w 6 t p n k2 bs) (r : PairAt W Br Bw hb w 4) (i : Nat) (hi : i * 4 + 4 ≤ n) (ha : (p + i * 4) % 4 = 0) (xw vk va vb vr : Int) (vt : ByteArray) (b : Int) (cn : ∀ w, Calls Tryz.prog 103 #[.int .u64 b] w fun e w' => ∃ x : Nat, e = .returned (.int .u32 (x : Nat)) ∧ x < 4294967296 ∧ P x ∧ Below w.heap.size w w') (ci : ∀ w, Calls Tryz.prog 99 #[.agg #[.int .i64 vk, .int .i64 va, .int .u64 vb, .string vt, .int .u64 vr]] w fun e w' => e = .returned (.tuple #[.int .u64 b, .int .i64 0]) ∧ Below w.heap.size w w') :
    Calls Tryz.prog 102 #[.int .i64 i, .int .u64 xw, .agg #[.int .i64 vk, .int .i64 va, .int .u64 vb, .string vt, .int .u64 vr], .pointer (some ⟨Bw, 0, none⟩)] W fun e w' => e = .returned (.int .i64 0) ∧ ∃ x : Nat, x < 4294967296 ∧ P x ∧ Upd T W w' ∧ HLay w' hb sb vc T (H.set t (some (.buf k2 (saved bs (p + i * 4) x 4)))) u h := by
  have hB1 : Below W.heap.size W (W.alloc (.cells #[.int .i64 vk, .int .i64 va, .int .u64 vb, .string vt, .int .u64 vr] 33)) := (Below.refl _ W).alloc (Nat.le_refl _) _
  have e1 := World.cell?_alloc_new W #[.int .i64 vk, .int .i64 va, .int .u64 vb, .string vt, .int .u64 vr] 33
  obtain ⟨Bh, Bx, Bd, hR, hr, hw⟩ := r.ex
  have hv : ∀ w2, Below W.heap.size W w2 → w2.cell? ⟨Bw, 0, none⟩ = some (.func (.func 133) #[] #[.pointer (some ⟨Bh, 0, none⟩), .pointer (some ⟨Bx, 0, none⟩), .pointer (some ⟨Bd, 0, none⟩)]) ∧ ∀ x : Nat, x < 4294967296 → Calls Tryz.prog 133 #[.int .i64 i, .int .u64 (x : Nat), .pointer (some ⟨Bh, 0, none⟩), .pointer (some ⟨Bx, 0, none⟩), .pointer (some ⟨Bd, 0, none⟩)] w2 fun e w' => e = .returned (.int .i64 0) ∧ Hid (Upd T W w' ∧ HLay w' hb sb vc T (H.set t (some (.buf k2 (saved bs (p + i * 4) x 4)))) u h) := by
    intro w2 hB2
    refine ⟨(box_of (hB2.block _ hw.lt) hw).cell, fun x hx => (raw2_c (g.below hB2) s (hR.below hB2) (.inr (.inr (.inl rfl))) i hi ha _ (by omega)).mono ?_⟩
    rintro e w' ⟨rfl, hU, hL⟩
    exact ⟨rfl, (Upd.of_below hB2).trans' hU, hL⟩
  have HV := hid hv
  have HB1 := hid hB1
  clear g s r hi ha hv hB1 hR hr hw
  go_enter Tryz.func102, Tryz.ntmps102
  go_upto_region 4 with (go_at_call 99; (with_reducible refine (ci _).mono ?_); rintro e w2 ⟨rfl, hB2⟩; clear ci)
  have hB12 := HB1.out.trans (hB2.mono HB1.out.size)
  have hBd : Below W.heap.size W w2.drew := ⟨hB12.os, hB12.tape, hB12.output, hB12.size, hB12.block⟩
  have x1 := (HV.out w2 hB12).1
  have HD := hid hBd
  clear hBd hB12 hB2
  go_region_with (first | (go_at_call 103; (with_reducible refine (cn _).mono ?_); rintro e w3 ⟨x, rfl, hx, hPx, hB3⟩; (obtain ⟨x3, cv'⟩ := HV.out w3 (HD.out.trans (hB3.mono HD.out.size))); (have cv := cv' x hx); (have hcx : IntKind.u64.wrap ((x : Nat) : Int) = ((x : Nat) : Int) := by rw [IntKind.wrap_u64]; omega); (have PX := hid (And.intro hx hPx)); clear cv' hx hPx) | (go_at_call 133; (with_reducible refine cv.mono ?_); rintro e w4 ⟨rfl, hf⟩; clear cv))
  all_goals (
    go_wp2
    go_ret
    exact ⟨rfl, x, PX.out.1, PX.out.2, hf.out.1, hf.out.2⟩)
end
end Go.Proofs.YtenpopelbmeemaaGreat.W
/- Package buf: fits, View. -/
namespace Go.Proofs.YtenpopelbmeemaaGreat.W
open Go.ChangeShapes Go.WideShapes Go.RowKit Go.Shelf
set_option linter.unusedVariables false
theorem fits_ar1 (E p f : Nat) (hk : E > 0) (hE : E ≤ 8) (ha : (p + f) % E = 0) : Int.tmod (p : Int) (E : Int) = ((p % E : Nat) : Int) ∧ Int.tmod (f : Int) (E : Int) = ((f % E : Nat) : Int) ∧ IntKind.i64.wrap (((p % E : Nat) : Int) + ((f % E : Nat) : Int)) = ((p % E + f % E : Nat) : Int) ∧ wrap64 (((p % E : Nat) : Int) + ((f % E : Nat) : Int)) = ((p % E + f % E : Nat) : Int) ∧ Int.tmod ((p % E + f % E : Nat) : Int) (E : Int) = 0 := by
  have l1 : p % E < E := Nat.mod_lt _ hk
  have l2 : f % E < E := Nat.mod_lt _ hk
  refine ⟨?_, ?_, ?_, ?_, ?_⟩
  · rw [Int.tmod_eq_emod_of_nonneg (Int.natCast_nonneg p)]; exact (Int.natCast_emod p E).symm
  · rw [Int.tmod_eq_emod_of_nonneg (Int.natCast_nonneg f)]; exact (Int.natCast_emod f E).symm
  · generalize p % E = a at *
    generalize f % E = b at *
    rw [IntKind.wrap_i64]; omega
  · generalize p % E = a at *
    generalize f % E = b at *
    unfold wrap64; omega
  · rw [Int.tmod_eq_emod_of_nonneg (Int.natCast_nonneg _), ← Int.natCast_emod, ← Nat.add_mod, ha]; rfl
theorem fits_ar2 (E S f n : Nat) (hS : S ≤ 8388608) (hf : f ≤ S) (hn : n ≤ (S - f) / E) : IntKind.i64.wrap ((S : Int) - f) = ((S - f : Nat) : Int) ∧ wrap64 ((S : Int) - f) = ((S - f : Nat) : Int) ∧ Int.tdiv ((S - f : Nat) : Int) (E : Int) = (((S - f) / E : Nat) : Int) ∧ wrap64 (((S - f) / E : Nat) : Int) = (((S - f) / E : Nat) : Int) ∧ IntKind.i64.wrap (((S - f) / E : Nat) : Int) = (((S - f) / E : Nat) : Int) ∧ ¬ (n : Int) > (((S - f) / E : Nat) : Int) := by
  have hQ : (S - f) / E ≤ 8388608 := by have := Nat.div_le_self (S - f) E; omega
  refine ⟨?_, ?_, ?_, ?_, ?_, ?_⟩
  · rw [IntKind.wrap_i64]; omega
  · unfold wrap64; omega
  · rw [Int.tdiv_eq_ediv_of_nonneg (Int.natCast_nonneg _)]; exact (Int.natCast_ediv _ E).symm
  · generalize (S - f) / E = a at *
    unfold wrap64; omega
  · generalize (S - f) / E = a at *
    rw [IntKind.wrap_i64]; omega
  · generalize (S - f) / E = a at *
    omega
section
variable {W0 W W1 W' : World} {hb : Nat} {H : List (Option Hc)} {u : Nat} {K : Nat → Prop}
set_option maxRecDepth 100000 in
set_option maxHeartbeats 1000000 in
theorem fits_c (kd : Int) (hkd : elB kd > 0) (vw : Bool) (ba p : Nat) (ln nb : Int) (m : Nat) (hcnt : ∀ W, Calls Tryz.prog 42 #[.agg #[.int .i64 kd, .bool vw, .int .i64 0, .string ⟨#[]⟩, .slice none 0 0, .slice none 0 0, .int .u64 ba, .int .i64 p, .int .i64 ln, .int .i64 nb]] W fun e w' => e = .returned (.int .i64 (m : Nat)) ∧ Below W.heap.size W w') (k : Int) (hk : elB k > 0) (f n : Nat) (ha : (p + f) % elB k = 0) (hf : f ≤ m * elB kd) (hn : n ≤ (m * elB kd - f) / elB k) (hm : m * elB kd ≤ 8388608) (hp8 : p ≤ 8388608) (W : World) :
    Calls Tryz.prog 38 #[.agg #[.int .i64 kd, .bool vw, .int .i64 0, .string ⟨#[]⟩, .slice none 0 0, .slice none 0 0, .int .u64 ba, .int .i64 p, .int .i64 ln, .int .i64 nb], .int .i64 k, .int .i64 f, .int .i64 n] W fun e w' => e = .returned (.int .i64 0) ∧ Below W.heap.size W w' := by
  have hB1 : Below W.heap.size W (W.alloc (.cells #[.int .i64 kd, .bool vw, .int .i64 0, .string ⟨#[]⟩, .slice none 0 0, .slice none 0 0, .int .u64 ba, .int .i64 p, .int .i64 ln, .int .i64 nb] 69)) := (Below.refl _ W).alloc (Nat.le_refl _) _
  have f1 := World.alloc_heap_new W (.cells #[.int .i64 kd, .bool vw, .int .i64 0, .string ⟨#[]⟩, .slice none 0 0, .slice none 0 0, .int .u64 ba, .int .i64 p, .int .i64 ln, .int .i64 nb] 69)
  have e1 := World.cell?_alloc_new W #[.int .i64 kd, .bool vw, .int .i64 0, .string ⟨#[]⟩, .slice none 0 0, .slice none 0 0, .int .u64 ba, .int .i64 p, .int .i64 ln, .int .i64 nb] 69
  have cw := fun w => width_c k w
  have cw2 := fun w => width_c kd w
  have hke : elB k = 1 ∨ elB k = 2 ∨ elB k = 4 ∨ elB k = 8 := by rcases elB_cases k with h | h | h | h | h <;> omega
  have hms : ((m * elB kd : Nat) : Int) = (m : Int) * ((elB kd : Nat) : Int) := by simp
  have hmul : IntKind.i64.wrap ((m : Int) * ((elB kd : Nat) : Int)) = ((m * elB kd : Nat) : Int) := by rw [IntKind.wrap_i64, ← hms]; omega
  have hmul' : wrap64 ((m : Int) * ((elB kd : Nat) : Int)) = ((m * elB kd : Nat) : Int) := by unfold wrap64; rw [← hms]; omega
  clear hms
  generalize m * elB kd = S at *
  generalize ((elB kd : Nat) : Int) = EK at *
  generalize hE : elB k = E at *
  have e0 : ¬ ((E : Nat) : Int) = 0 := by omega
  have f0 : ¬ (f : Int) < 0 := by omega
  have n0 : ¬ (n : Int) < 0 := by omega
  have pw : IntKind.i64.wrap (p : Int) = p := by rw [IntKind.wrap_i64]; omega
  have Sw : IntKind.i64.wrap (S : Int) = S := by rw [IntKind.wrap_i64]; omega
  have s1 : ¬ (f : Int) > S := by omega
  obtain ⟨m1, m2, m3, m3', m4⟩ := fits_ar1 E p f hk (by omega) ha
  obtain ⟨s2, s2', s3, s4, s4', s5⟩ := fits_ar2 E S f n hm hf hn
  generalize (S - f) / E = QQ at *
  generalize S - f = DD at *
  generalize p % E + f % E = MM at *
  generalize p % E = M1 at *
  generalize f % E = M2 at *
  clear ha hf hn hm hp8 hke hk hkd hE
  go_enter Tryz.func38, Tryz.ntmps38
  go_upto_region 6 with (go_at_call 18; (with_reducible refine (cw _).mono ?_); rintro e w' ⟨rfl, hw⟩; (have hw' := hw.symm); subst hw'; clear hw)
  go_quiet (fail)
  go_upto_region 8 with fail
  generalize hWq : (W.alloc (.cells #[.int .i64 kd, .bool vw, .int .i64 0, .string ⟨#[]⟩, .slice none 0 0, .slice none 0 0, .int .u64 ba, .int .i64 p, .int .i64 ln, .int .i64 nb] 69)).drewN nq = Wq at *
  have fq : Wq.heap[W.heap.size]? = some (.cells #[.int .i64 kd, .bool vw, .int .i64 0, .string ⟨#[]⟩, .slice none 0 0, .slice none 0 0, .int .u64 ba, .int .i64 p, .int .i64 ln, .int .i64 nb] 69) := by rw [← hWq]; exact f1
  have hBq : Below W.heap.size W Wq := by rw [← hWq]; exact ⟨hB1.os, hB1.tape, hB1.output, hB1.size, hB1.block⟩
  clear hWq hB1 f1 e1
  refine wp_region_held_drew (S := fun w' => w'.heap[W.heap.size]? = some (.cells #[.int .i64 kd, .bool vw, .int .i64 0, .string ⟨#[]⟩, .slice none 0 0, .slice none 0 0, .int .u64 ba, .int .i64 p, .int .i64 ln, .int .i64 nb] 69)) (by kernel_rfl) fq ?_
  intro hS
  (refine wpAnyH_take (i := 0) (v := ?_) rfl (by kernel_rfl) (by kernel_rfl) (by kernel_rfl) (fun _ _ _ h => h) (Or.inl ⟨by rfl, ?_⟩) hS ?_); rotate_left; (focus (intro w' hSw; (have ec := fun j => cell_of_row w' W.heap.size j _ _ _ hSw); go_simp; (try with_reducible rfl)))
  (refine wpAnyH_take (i := 2) (v := ?_) rfl (by kernel_rfl) (by kernel_rfl) (by kernel_rfl) (fun _ _ _ h => h) (Or.inl ⟨by rfl, ?_⟩) hS ?_); rotate_left; (focus (intro w' hSw; (have ec := fun j => cell_of_row w' W.heap.size j _ _ _ hSw); go_simp; (try with_reducible rfl)))
  (refine wpAnyH_take (i := 3) (v := ?_) rfl (by kernel_rfl) (by kernel_rfl) (by kernel_rfl) (fun _ _ _ h => h) (Or.inl ⟨by rfl, ?_⟩) hS ?_); rotate_left; (focus (intro w' hSw; (have ec := fun j => cell_of_row w' W.heap.size j _ _ _ hSw); go_simp; (try with_reducible rfl)))
  (refine wpAnyH_take (i := 4) (v := ?_) rfl (by kernel_rfl) (by kernel_rfl) (by kernel_rfl) (fun _ _ _ h => h) (Or.inl ⟨by rfl, ?_⟩) hS ?_); rotate_left; (focus (intro w' hSw; (have ec := fun j => cell_of_row w' W.heap.size j _ _ _ hSw); go_simp; (try with_reducible rfl)))
  refine wpAnyH_ready (rs := [1]) (by kernel_rfl) (by simp) ?_
  refine AllReadyH.cons rfl (fun K hK => ?_) AllReadyH.nil
  go_simp
  refine (hcnt _).mono ?_
  rintro e w4 ⟨rfl, hB4⟩
  have f4 : w4.heap[W.heap.size]? = some (.cells #[.int .i64 kd, .bool vw, .int .i64 0, .string ⟨#[]⟩, .slice none 0 0, .slice none 0 0, .int .u64 ba, .int .i64 p, .int .i64 ln, .int .i64 nb] 69) := (hB4.block _ (lt_get hS)).trans hS
  have hB4' : Below Wq.heap.size Wq w4 := ⟨hB4.os, hB4.tape, hB4.output, hB4.size, hB4.block⟩
  have hB5 : Below W.heap.size W w4 := hBq.trans (hB4'.mono hBq.size)
  refine hK.out _ _ f4 (fun _ => ?_)
  clear hK K hS fq hB4
  have hS := f4
  refine wpAnyH_ready (rs := [5]) (by kernel_rfl) (by simp) ?_
  refine AllReadyH.cons rfl (fun K hK => ?_) AllReadyH.nil
  go_simp
  refine (cw2 _).mono ?_
  rintro e w' ⟨rfl, hw⟩
  have hw' := hw.symm
  subst hw'
  clear hw
  refine hK.out _ _ hS (fun _ => ?_)
  clear hK K
  (refine wpAnyH_take (i := 6) (v := ?_) rfl (by kernel_rfl) (by kernel_rfl) (by kernel_rfl) (fun _ _ _ h => h) (Or.inl ⟨by rfl, ?_⟩) hS ?_); rotate_left; (focus (intro w' hSw; (have ec := fun j => cell_of_row w' W.heap.size j _ _ _ hSw); go_simp; (try with_reducible rfl)))
  (refine wpAnyH_take (i := 7) (v := ?_) rfl (by kernel_rfl) (by kernel_rfl) (by kernel_rfl) (fun _ _ _ h => h) (Or.inl ⟨by rfl, ?_⟩) hS ?_); rotate_left; (focus (intro w' hSw; (have ec := fun j => cell_of_row w' W.heap.size j _ _ _ hSw); go_simp; (try with_reducible rfl)))
  refine wpAnyH_done (by kernel_rfl) ?_ _
  (try simp only [Act.put, List.getElem_toArray, List.getElem_cons_zero, List.getElem_cons_succ, List.setIfInBounds_toArray, List.set_cons_zero, List.set_cons_succ])
  go_wp2
  go_ret
  exact ⟨rfl, hB5⟩
end
end Go.Proofs.YtenpopelbmeemaaGreat.W
/- Package buf: View, of a buffer. -/
namespace Go.Proofs.YtenpopelbmeemaaGreat.W
open Go.ChangeShapes Go.WideShapes Go.RowKit Go.Shelf
set_option linter.unusedVariables false
section
variable {W0 W W1 W' : World} {hb : Nat} {H : List (Option Hc)} {u : Nat} {K : Nat → Prop}
set_option maxRecDepth 100000 in
set_option maxHeartbeats 4000000 in
theorem view_false (q : Hf W0 W hb H u K) (w : Nat) (hw64 : w < 18446744073709551616) (kd : Int) (h9 : ¬ kd = 9) (ba p : Nat) (ln nb : Int) (hget : Calls Tryz.prog 37 #[.pointer (some ⟨hb, 0, none⟩), .int .u64 w] W (ThP W kd false ba p ln nb)) (k : Int) (f n : Nat)
    (hfits : ∀ W, Calls Tryz.prog 38 #[.agg #[.int .i64 kd, .bool false, .int .i64 0, .string ⟨#[]⟩, .slice none 0 0, .slice none 0 0, .int .u64 ba, .int .i64 p, .int .i64 ln, .int .i64 nb], .int .i64 k, .int .i64 f, .int .i64 n] W fun e w' => e = .returned (.int .i64 0) ∧ Below W.heap.size W w')
    (pf : Nat) (hpf : p + f = pf) (hp8 : pf ≤ 8388608) (hn8 : n ≤ 8388608) (Q : World → Prop) (word : Nat) (orr : Option Addr) (capr : Nat) (rs : List Nat) (hr : WordsAt W (.slice orr rs.length capr) rs) (hrl : rs.length ≤ 900000)
    (hput : ∀ w9 v, Below W.heap.size W w9 → WordsAt w9 v (rs ++ [w]) → Calls Tryz.prog 23 #[.pointer (some ⟨hb, 0, none⟩), .agg #[.int .i64 k, .bool true, .int .i64 0, .string ⟨#[]⟩, .slice none 0 0, .slice none 0 0, .int .u64 (w : Nat), .int .i64 (pf : Nat), .int .i64 n], v] w9 fun e w' => e = .returned (.tuple #[.int .u64 (word : Nat), .int .i64 0]) ∧ Q w' ∧ ∀ b, W.heap.size ≤ b → b < w9.heap.size → w'.heap[b]? = w9.heap[b]?) :
    Calls Tryz.prog 15 #[.pointer (some ⟨hb, 0, none⟩), .int .u64 w, .int .i64 k, .int .i64 f, .int .i64 n, .slice orr rs.length capr] W fun e w' => e = .returned (.tuple #[.int .u64 (word : Nat), .int .i64 0]) ∧ Q w' := by
  have hfw : IntKind.i64.wrap (f : Int) = f := by rw [IntKind.wrap_i64]; omega
  have hnw : IntKind.i64.wrap (n : Int) = n := by rw [IntKind.wrap_i64]; omega
  have hpw : IntKind.i64.wrap ((p : Int) + (f : Int)) = (pf : Nat) := by rw [IntKind.wrap_i64]; omega
  have hpw' : wrap64 ((p : Int) + (f : Int)) = (pf : Nat) := by unfold wrap64; omega
  have HP := hid hput
  have HR := hid hr
  have HF := hid hfits
  have HLR := hid hrl
  have HW := hid hw64
  clear q hput hr hfits hp8 hn8 hpf hrl hw64
  generalize hrn : rs.length = rn at *
  go_enter Tryz.func15, Tryz.ntmps15
  go_upto_region 2 with (go_at_call 37; (with_reducible refine hget.mono ?_); rintro e w2 ⟨rfl, hB2⟩; clear hget)
  have hf1 := HF.out
  have hB3 : Below w2.heap.size w2 (w2.alloc (.cells #[.int .i64 kd, .bool false, .int .i64 0, .string ⟨#[]⟩, .slice none 0 0, .slice none 0 0, .int .u64 ba, .int .i64 p, .int .i64 ln, .int .i64 nb] 69)) := (Below.refl _ w2).alloc (Nat.le_refl _) _
  have f3 := World.alloc_heap_new w2 (.cells #[.int .i64 kd, .bool false, .int .i64 0, .string ⟨#[]⟩, .slice none 0 0, .slice none 0 0, .int .u64 ba, .int .i64 p, .int .i64 ln, .int .i64 nb] 69)
  have e3 := World.cell?_alloc_new w2 #[.int .i64 kd, .bool false, .int .i64 0, .string ⟨#[]⟩, .slice none 0 0, .slice none 0 0, .int .u64 ba, .int .i64 p, .int .i64 ln, .int .i64 nb] 69
  have hbel := hB2.trans (hB3.mono hB2.size)
  have hz2 := hB2.size
  generalize w2.alloc (.cells #[.int .i64 kd, .bool false, .int .i64 0, .string ⟨#[]⟩, .slice none 0 0, .slice none 0 0, .int .u64 ba, .int .i64 p, .int .i64 ln, .int .i64 nb] 69) = w3 at *
  generalize w2.heap.size = B14 at *
  have kp : Hid (∀ w4, Below w3.heap.size w3 w4 → (∀ j, w4.cell? ⟨B14, j, none⟩ = #[.int .i64 kd, .bool false, .int .i64 0, .string ⟨#[]⟩, .slice none 0 0, .slice none 0 0, .int .u64 ba, .int .i64 p, .int .i64 ln, .int .i64 nb][j]?) ∧ Below W.heap.size W w4) := by
    show ∀ w4, _
    intro w4 hB4
    exact ⟨fun j => (World.cell?_of_block (hB4.block B14 (lt_get f3))).trans (e3 j), hbel.trans (hB4.mono hbel.size)⟩
  have hf3 := hf1 w3
  clear hB2 hB3 hbel f3 hf1 hz2
  go_upto_region 13 with (go_at_call 38; (with_reducible refine hf3.mono ?_); rintro e w4 ⟨rfl, hB4⟩; clear hf3; (obtain ⟨e4, hbel4⟩ := kp.out w4 hB4); (have HBe := hid hbel4); clear hbel4 hB4 kp e3)
  have hB6 : Below w4.heap.size w4 (w4.alloc (.cells #[.int .i64 k, .bool true, .int .i64 0, .string ⟨#[]⟩, .slice none 0 0, .slice none 0 0, .int .u64 (w : Nat), .int .i64 (pf : Nat), .int .i64 n] 43)) := (Below.refl _ w4).alloc (Nat.le_refl _) _
  have f6 := World.alloc_heap_new w4 (.cells #[.int .i64 k, .bool true, .int .i64 0, .string ⟨#[]⟩, .slice none 0 0, .slice none 0 0, .int .u64 (w : Nat), .int .i64 (pf : Nat), .int .i64 n] 43)
  have hbel6 := HBe.out.trans (hB6.mono HBe.out.size)
  generalize w4.alloc (.cells #[.int .i64 k, .bool true, .int .i64 0, .string ⟨#[]⟩, .slice none 0 0, .slice none 0 0, .int .u64 (w : Nat), .int .i64 (pf : Nat), .int .i64 n] 43) = w6 at *
  have HB18 : Hid (W.heap.size ≤ w4.heap.size) := hid HBe.out.size
  generalize w4.heap.size = B18 at *
  have hb6d : Below W.heap.size W w6.drew := ⟨hbel6.os, hbel6.tape, hbel6.output, hbel6.size, hbel6.block⟩
  have f6d : w6.drew.heap[B18]? = some (.cells #[.int .i64 k, .bool true, .int .i64 0, .string ⟨#[]⟩, .slice none 0 0, .slice none 0 0, .int .u64 (w : Nat), .int .i64 (pf : Nat), .int .i64 n] 43) := f6
  clear hB6 HBe e4 f6 hbel6
  refine wp_region_held_drew (S := fun w' => w'.heap[B18]? = some (.cells #[.int .i64 k, .bool true, .int .i64 0, .string ⟨#[]⟩, .slice none 0 0, .slice none 0 0, .int .u64 (w : Nat), .int .i64 (pf : Nat), .int .i64 n] 43)) (by kernel_rfl) f6d ?_
  intro hS
  (refine wpAnyH_take (i := 0) (v := ?_) rfl (by kernel_rfl) (by kernel_rfl) (by kernel_rfl) (fun _ _ _ h => h) (Or.inl ⟨by rfl, ?_⟩) hS ?_); rotate_left; (focus (intro w' hSw; (have ec := fun j => cell_of_row w' B18 j _ _ _ hSw); go_simp; (try with_reducible rfl))); (try simp only [Act.put, List.getElem_toArray, List.getElem_cons_zero, List.setIfInBounds_toArray, List.set_cons_zero, List.set_cons_succ])
  (refine wpAnyH_take (i := 1) (v := ?_) rfl (by kernel_rfl) (by kernel_rfl) (by kernel_rfl) (fun _ _ _ h => h) (Or.inl ⟨by rfl, ?_⟩) hS ?_); rotate_left; (focus (intro w' hSw; (have ec := fun j => cell_of_row w' B18 j _ _ _ hSw); go_simp; (try with_reducible rfl))); (try simp only [Act.put, List.getElem_toArray, List.getElem_cons_zero, List.getElem_cons_succ, List.setIfInBounds_toArray, List.set_cons_zero, List.set_cons_succ])
  (refine wpAnyH_take (i := 2) (v := ?_) rfl (by kernel_rfl) (by kernel_rfl) (by kernel_rfl) (fun _ _ _ h => h) (Or.inl ⟨by rfl, ?_⟩) hS ?_); rotate_left; (focus (intro w' hSw; (have ec := fun j => cell_of_row w' B18 j _ _ _ hSw); go_simp; (try with_reducible rfl))); (try simp only [Act.put, List.getElem_toArray, List.getElem_cons_zero, List.getElem_cons_succ, List.setIfInBounds_toArray, List.set_cons_zero, List.set_cons_succ])
  (refine wpAnyH_take (i := 3) (v := ?_) rfl (by kernel_rfl) (by kernel_rfl) (by kernel_rfl) (fun _ _ _ h => h) (Or.inl ⟨by rfl, ?_⟩) hS ?_); rotate_left; (focus (intro w' hSw; (have ec := fun j => cell_of_row w' B18 j _ _ _ hSw); go_simp; (try with_reducible rfl))); (try simp only [Act.put, List.getElem_toArray, List.getElem_cons_zero, List.getElem_cons_succ, List.setIfInBounds_toArray, List.set_cons_zero, List.set_cons_succ])
  generalize w6.drew = w7 at *
  have hB8 : Below w7.heap.size w7 (w7.alloc (.cells #[.int .u64 (w : Nat)] 22)) := (Below.refl _ w7).alloc (Nat.le_refl _) _
  have hw8 : WordsAt (w7.alloc (.cells #[.int .u64 (w : Nat)] 22)) (.slice (some ⟨w7.heap.size, 0, none⟩) 1 1) [w] := words_new w7 [w] _ (by intro x hx; rw [List.mem_singleton.1 hx]; exact HW.out) (by simp) rfl 22
  have hS8 : (w7.alloc (.cells #[.int .u64 (w : Nat)] 22)).heap[B18]? = some (.cells #[.int .i64 k, .bool true, .int .i64 0, .string ⟨#[]⟩, .slice none 0 0, .slice none 0 0, .int .u64 (w : Nat), .int .i64 (pf : Nat), .int .i64 n] 43) := (hB8.block B18 (lt_get hS)).trans hS
  refine wpAnyH_ready (rs := [4]) (by kernel_rfl) (by simp) ?_
  refine AllReadyH.cons rfl (fun K hK => ?_) AllReadyH.nil
  go_simp
  refine hK.out _ _ hS8 (fun _ => ?_)
  clear hK K
  (try simp only [Act.put, List.getElem_toArray, List.getElem_cons_zero, List.getElem_cons_succ, List.setIfInBounds_toArray, List.set_cons_zero, List.set_cons_succ])
  have hb8 := hb6d.trans (hB8.mono hb6d.size)
  generalize w7.alloc (.cells #[.int .u64 (w : Nat)] 22) = w8 at *
  have hB9 : Below w8.heap.size w8 (w8.alloc (.cells #[.slice orr rn capr, .slice (some ⟨w7.heap.size, 0, none⟩) 1 1] 27)) := (Below.refl _ w8).alloc (Nat.le_refl _) _
  have e9 := World.cell?_alloc_new w8 #[.slice orr rn capr, .slice (some ⟨w7.heap.size, 0, none⟩) 1 1] 27
  have hS9 : (w8.alloc (.cells #[.slice orr rn capr, .slice (some ⟨w7.heap.size, 0, none⟩) 1 1] 27)).heap[B18]? = some (.cells #[.int .i64 k, .bool true, .int .i64 0, .string ⟨#[]⟩, .slice none 0 0, .slice none 0 0, .int .u64 (w : Nat), .int .i64 (pf : Nat), .int .i64 n] 43) := (hB9.block B18 (lt_get hS8)).trans hS8
  refine wpAnyH_ready (rs := [5]) (by kernel_rfl) (by simp) ?_
  refine AllReadyH.cons rfl (fun K hK => ?_) AllReadyH.nil
  go_simp
  refine hK.out _ _ hS9 (fun _ => ?_)
  clear hK K
  (try simp only [Act.put, List.getElem_toArray, List.getElem_cons_zero, List.getElem_cons_succ, List.setIfInBounds_toArray, List.set_cons_zero, List.set_cons_succ])
  have hb9 := hb8.trans (hB9.mono hb8.size)
  have hw9 := words_below hw8 hB9
  have hr9 := words_below HR.out hb9
  have d0 := e9 0
  have d1 := e9 1
  simp only [List.getElem?_toArray, List.getElem?_cons_succ, List.getElem?_cons_zero] at d0 d1
  have cc := sconcat_c (w8.alloc (.cells #[.slice orr rn capr, .slice (some ⟨w7.heap.size, 0, none⟩) 1 1] 27)) w8.heap.size 2 _ _ rs [w] d0 d1 hr9 hw9 (by show rs.length + 1 ≤ 2000000; have := HLR.out; omega) (by show 0 < 1; omega)
  generalize w8.alloc (.cells #[.slice orr rn capr, .slice (some ⟨w7.heap.size, 0, none⟩) 1 1] 27) = w9 at *
  refine wpAnyH_ready (rs := [6]) (by kernel_rfl) (by simp) ?_
  refine AllReadyH.cons rfl (fun K hK => ?_) AllReadyH.nil
  go_simp
  refine cc.mono ?_
  rintro e w10 ⟨v10, rfl, hB10, hv10⟩
  refine hK.out _ _ ((hB10.block B18 (lt_get hS9)).trans hS9) (fun hS10 => ?_)
  clear hK K cc
  (try simp only [Act.put, List.getElem_toArray, List.getElem_cons_zero, List.getElem_cons_succ, List.setIfInBounds_toArray, List.set_cons_zero, List.set_cons_succ])
  have hb10 := hb9.trans (hB10.mono hb9.size)
  have cp := HP.out w10 v10 hb10 hv10
  obtain ⟨o10, c10, hv, hx10⟩ := id hv10
  subst hv
  clear hv10 hx10
  generalize (rs ++ [w]).length = L10 at *
  refine wpAnyH_ready (rs := [7]) (by kernel_rfl) (by simp) ?_
  refine AllReadyH.cons rfl (fun K hK => ?_) AllReadyH.nil
  go_simp
  refine cp.mono ?_
  rintro e w11 ⟨rfl, hQ⟩
  obtain ⟨hQ1, hk1⟩ := hQ
  refine hK.out _ _ ((hk1 B18 HB18.out (lt_get hS10)).trans hS10) (fun hS11 => ?_)
  clear hK K cp
  (try simp only [Act.put, List.getElem_toArray, List.getElem_cons_zero, List.getElem_cons_succ, List.setIfInBounds_toArray, List.set_cons_zero, List.set_cons_succ])
  have hS := hS11
  (refine wpAnyH_take (i := 8) (v := ?_) rfl (by kernel_rfl) (by kernel_rfl) (by kernel_rfl) (fun _ _ _ h => h) (Or.inl ⟨by rfl, ?_⟩) hS ?_); rotate_left; (focus (intro w' hSw; (have ec := fun j => cell_of_row w' B18 j _ _ _ hSw); go_simp; (try with_reducible rfl))); (try simp only [Act.put, List.getElem_toArray, List.getElem_cons_zero, List.getElem_cons_succ, List.setIfInBounds_toArray, List.set_cons_zero, List.set_cons_succ])
  (refine wpAnyH_take (i := 9) (v := ?_) rfl (by kernel_rfl) (by kernel_rfl) (by kernel_rfl) (fun _ _ _ h => h) (Or.inl ⟨by rfl, ?_⟩) hS ?_); rotate_left; (focus (intro w' hSw; (have ec := fun j => cell_of_row w' B18 j _ _ _ hSw); go_simp; (try with_reducible rfl))); (try simp only [Act.put, List.getElem_toArray, List.getElem_cons_zero, List.getElem_cons_succ, List.setIfInBounds_toArray, List.set_cons_zero, List.set_cons_succ])
  (refine wpAnyH_take (i := 10) (v := ?_) rfl (by kernel_rfl) (by kernel_rfl) (by kernel_rfl) (fun _ _ _ h => h) (Or.inl ⟨by rfl, ?_⟩) hS ?_); rotate_left; (focus (intro w' hSw; (have ec := fun j => cell_of_row w' B18 j _ _ _ hSw); go_simp; (try with_reducible rfl))); (try simp only [Act.put, List.getElem_toArray, List.getElem_cons_zero, List.getElem_cons_succ, List.setIfInBounds_toArray, List.set_cons_zero, List.set_cons_succ])
  (refine wpAnyH_take (i := 11) (v := ?_) rfl (by kernel_rfl) (by kernel_rfl) (by kernel_rfl) (fun _ _ _ h => h) (Or.inl ⟨by rfl, ?_⟩) hS ?_); rotate_left; (focus (intro w' hSw; (have ec := fun j => cell_of_row w' B18 j _ _ _ hSw); go_simp; (try with_reducible rfl))); (try simp only [Act.put, List.getElem_toArray, List.getElem_cons_zero, List.getElem_cons_succ, List.setIfInBounds_toArray, List.set_cons_zero, List.set_cons_succ])
  refine wpAnyH_done (by kernel_rfl) ?_ _
  go_wp2
  go_ret2
  exact ⟨rfl, hQ1⟩
end
end Go.Proofs.YtenpopelbmeemaaGreat.W
/- Package buf: View, of a view. -/
namespace Go.Proofs.YtenpopelbmeemaaGreat.W
open Go.ChangeShapes Go.WideShapes Go.RowKit Go.Shelf
set_option linter.unusedVariables false
section
variable {W0 W W1 W' : World} {hb : Nat} {H : List (Option Hc)} {u : Nat} {K : Nat → Prop}
set_option maxRecDepth 100000 in
set_option maxHeartbeats 4000000 in
theorem view_true (q : Hf W0 W hb H u K) (w : Nat) (hw64 : w < 18446744073709551616) (kd : Int) (h9 : ¬ kd = 9) (ba p : Nat) (ln nb : Int) (hget : Calls Tryz.prog 37 #[.pointer (some ⟨hb, 0, none⟩), .int .u64 w] W (ThP W kd true ba p ln nb)) (k : Int) (f n : Nat)
    (hfits : ∀ W, Calls Tryz.prog 38 #[.agg #[.int .i64 kd, .bool true, .int .i64 0, .string ⟨#[]⟩, .slice none 0 0, .slice none 0 0, .int .u64 ba, .int .i64 p, .int .i64 ln, .int .i64 nb], .int .i64 k, .int .i64 f, .int .i64 n] W fun e w' => e = .returned (.int .i64 0) ∧ Below W.heap.size W w')
    (pf : Nat) (hpf : p + f = pf) (hp8 : pf ≤ 8388608) (hn8 : n ≤ 8388608) (Q : World → Prop) (word : Nat) (orr : Option Addr) (capr : Nat) (rs : List Nat) (hr : WordsAt W (.slice orr rs.length capr) rs) (hrl : rs.length ≤ 900000)
    (hput : ∀ w9 v, Below W.heap.size W w9 → WordsAt w9 v (rs ++ [w]) → Calls Tryz.prog 23 #[.pointer (some ⟨hb, 0, none⟩), .agg #[.int .i64 k, .bool true, .int .i64 0, .string ⟨#[]⟩, .slice none 0 0, .slice none 0 0, .int .u64 (ba : Nat), .int .i64 (pf : Nat), .int .i64 n], v] w9 fun e w' => e = .returned (.tuple #[.int .u64 (word : Nat), .int .i64 0]) ∧ Q w' ∧ ∀ b, W.heap.size ≤ b → b < w9.heap.size → w'.heap[b]? = w9.heap[b]?) :
    Calls Tryz.prog 15 #[.pointer (some ⟨hb, 0, none⟩), .int .u64 w, .int .i64 k, .int .i64 f, .int .i64 n, .slice orr rs.length capr] W fun e w' => e = .returned (.tuple #[.int .u64 (word : Nat), .int .i64 0]) ∧ Q w' := by
  have hfw : IntKind.i64.wrap (f : Int) = f := by rw [IntKind.wrap_i64]; omega
  have hnw : IntKind.i64.wrap (n : Int) = n := by rw [IntKind.wrap_i64]; omega
  have hpw : IntKind.i64.wrap ((p : Int) + (f : Int)) = (pf : Nat) := by rw [IntKind.wrap_i64]; omega
  have hpw' : wrap64 ((p : Int) + (f : Int)) = (pf : Nat) := by unfold wrap64; omega
  have HP := hid hput
  have HR := hid hr
  have HF := hid hfits
  have HLR := hid hrl
  have HW := hid hw64
  clear q hput hr hfits hp8 hn8 hpf hrl hw64
  generalize hrn : rs.length = rn at *
  go_enter Tryz.func15, Tryz.ntmps15
  go_upto_region 2 with (go_at_call 37; (with_reducible refine hget.mono ?_); rintro e w2 ⟨rfl, hB2⟩; clear hget)
  have hf1 := HF.out
  have hB3 : Below w2.heap.size w2 (w2.alloc (.cells #[.int .i64 kd, .bool true, .int .i64 0, .string ⟨#[]⟩, .slice none 0 0, .slice none 0 0, .int .u64 ba, .int .i64 p, .int .i64 ln, .int .i64 nb] 69)) := (Below.refl _ w2).alloc (Nat.le_refl _) _
  have f3 := World.alloc_heap_new w2 (.cells #[.int .i64 kd, .bool true, .int .i64 0, .string ⟨#[]⟩, .slice none 0 0, .slice none 0 0, .int .u64 ba, .int .i64 p, .int .i64 ln, .int .i64 nb] 69)
  have e3 := World.cell?_alloc_new w2 #[.int .i64 kd, .bool true, .int .i64 0, .string ⟨#[]⟩, .slice none 0 0, .slice none 0 0, .int .u64 ba, .int .i64 p, .int .i64 ln, .int .i64 nb] 69
  have hbel := hB2.trans (hB3.mono hB2.size)
  have hz2 := hB2.size
  generalize w2.alloc (.cells #[.int .i64 kd, .bool true, .int .i64 0, .string ⟨#[]⟩, .slice none 0 0, .slice none 0 0, .int .u64 ba, .int .i64 p, .int .i64 ln, .int .i64 nb] 69) = w3 at *
  generalize w2.heap.size = B14 at *
  have kp : Hid (∀ w4, Below w3.heap.size w3 w4 → (∀ j, w4.cell? ⟨B14, j, none⟩ = #[.int .i64 kd, .bool true, .int .i64 0, .string ⟨#[]⟩, .slice none 0 0, .slice none 0 0, .int .u64 ba, .int .i64 p, .int .i64 ln, .int .i64 nb][j]?) ∧ Below W.heap.size W w4) := by
    show ∀ w4, _
    intro w4 hB4
    exact ⟨fun j => (World.cell?_of_block (hB4.block B14 (lt_get f3))).trans (e3 j), hbel.trans (hB4.mono hbel.size)⟩
  have hf3 := hf1 w3
  clear hB2 hB3 hbel f3 hf1 hz2
  go_upto_region 13 with (go_at_call 38; (with_reducible refine hf3.mono ?_); rintro e w4 ⟨rfl, hB4⟩; clear hf3; (obtain ⟨e4, hbel4⟩ := kp.out w4 hB4); (have HBe := hid hbel4); clear hbel4 hB4 kp e3)
  have hB6 : Below w4.heap.size w4 (w4.alloc (.cells #[.int .i64 k, .bool true, .int .i64 0, .string ⟨#[]⟩, .slice none 0 0, .slice none 0 0, .int .u64 (ba : Nat), .int .i64 (pf : Nat), .int .i64 n] 43)) := (Below.refl _ w4).alloc (Nat.le_refl _) _
  have f6 := World.alloc_heap_new w4 (.cells #[.int .i64 k, .bool true, .int .i64 0, .string ⟨#[]⟩, .slice none 0 0, .slice none 0 0, .int .u64 (ba : Nat), .int .i64 (pf : Nat), .int .i64 n] 43)
  have hbel6 := HBe.out.trans (hB6.mono HBe.out.size)
  generalize w4.alloc (.cells #[.int .i64 k, .bool true, .int .i64 0, .string ⟨#[]⟩, .slice none 0 0, .slice none 0 0, .int .u64 (ba : Nat), .int .i64 (pf : Nat), .int .i64 n] 43) = w6 at *
  have HB18 : Hid (W.heap.size ≤ w4.heap.size) := hid HBe.out.size
  generalize w4.heap.size = B18 at *
  have hb6d : Below W.heap.size W w6.drew := ⟨hbel6.os, hbel6.tape, hbel6.output, hbel6.size, hbel6.block⟩
  have f6d : w6.drew.heap[B18]? = some (.cells #[.int .i64 k, .bool true, .int .i64 0, .string ⟨#[]⟩, .slice none 0 0, .slice none 0 0, .int .u64 (ba : Nat), .int .i64 (pf : Nat), .int .i64 n] 43) := f6
  clear hB6 HBe e4 f6 hbel6
  refine wp_region_held_drew (S := fun w' => w'.heap[B18]? = some (.cells #[.int .i64 k, .bool true, .int .i64 0, .string ⟨#[]⟩, .slice none 0 0, .slice none 0 0, .int .u64 (ba : Nat), .int .i64 (pf : Nat), .int .i64 n] 43)) (by kernel_rfl) f6d ?_
  intro hS
  (refine wpAnyH_take (i := 0) (v := ?_) rfl (by kernel_rfl) (by kernel_rfl) (by kernel_rfl) (fun _ _ _ h => h) (Or.inl ⟨by rfl, ?_⟩) hS ?_); rotate_left; (focus (intro w' hSw; (have ec := fun j => cell_of_row w' B18 j _ _ _ hSw); go_simp; (try with_reducible rfl))); (try simp only [Act.put, List.getElem_toArray, List.getElem_cons_zero, List.setIfInBounds_toArray, List.set_cons_zero, List.set_cons_succ])
  (refine wpAnyH_take (i := 1) (v := ?_) rfl (by kernel_rfl) (by kernel_rfl) (by kernel_rfl) (fun _ _ _ h => h) (Or.inl ⟨by rfl, ?_⟩) hS ?_); rotate_left; (focus (intro w' hSw; (have ec := fun j => cell_of_row w' B18 j _ _ _ hSw); go_simp; (try with_reducible rfl))); (try simp only [Act.put, List.getElem_toArray, List.getElem_cons_zero, List.getElem_cons_succ, List.setIfInBounds_toArray, List.set_cons_zero, List.set_cons_succ])
  (refine wpAnyH_take (i := 2) (v := ?_) rfl (by kernel_rfl) (by kernel_rfl) (by kernel_rfl) (fun _ _ _ h => h) (Or.inl ⟨by rfl, ?_⟩) hS ?_); rotate_left; (focus (intro w' hSw; (have ec := fun j => cell_of_row w' B18 j _ _ _ hSw); go_simp; (try with_reducible rfl))); (try simp only [Act.put, List.getElem_toArray, List.getElem_cons_zero, List.getElem_cons_succ, List.setIfInBounds_toArray, List.set_cons_zero, List.set_cons_succ])
  (refine wpAnyH_take (i := 3) (v := ?_) rfl (by kernel_rfl) (by kernel_rfl) (by kernel_rfl) (fun _ _ _ h => h) (Or.inl ⟨by rfl, ?_⟩) hS ?_); rotate_left; (focus (intro w' hSw; (have ec := fun j => cell_of_row w' B18 j _ _ _ hSw); go_simp; (try with_reducible rfl))); (try simp only [Act.put, List.getElem_toArray, List.getElem_cons_zero, List.getElem_cons_succ, List.setIfInBounds_toArray, List.set_cons_zero, List.set_cons_succ])
  generalize w6.drew = w7 at *
  have hB8 : Below w7.heap.size w7 (w7.alloc (.cells #[.int .u64 (w : Nat)] 22)) := (Below.refl _ w7).alloc (Nat.le_refl _) _
  have hw8 : WordsAt (w7.alloc (.cells #[.int .u64 (w : Nat)] 22)) (.slice (some ⟨w7.heap.size, 0, none⟩) 1 1) [w] := words_new w7 [w] _ (by intro x hx; rw [List.mem_singleton.1 hx]; exact HW.out) (by simp) rfl 22
  have hS8 : (w7.alloc (.cells #[.int .u64 (w : Nat)] 22)).heap[B18]? = some (.cells #[.int .i64 k, .bool true, .int .i64 0, .string ⟨#[]⟩, .slice none 0 0, .slice none 0 0, .int .u64 (ba : Nat), .int .i64 (pf : Nat), .int .i64 n] 43) := (hB8.block B18 (lt_get hS)).trans hS
  refine wpAnyH_ready (rs := [4]) (by kernel_rfl) (by simp) ?_
  refine AllReadyH.cons rfl (fun K hK => ?_) AllReadyH.nil
  go_simp
  refine hK.out _ _ hS8 (fun _ => ?_)
  clear hK K
  (try simp only [Act.put, List.getElem_toArray, List.getElem_cons_zero, List.getElem_cons_succ, List.setIfInBounds_toArray, List.set_cons_zero, List.set_cons_succ])
  have hb8 := hb6d.trans (hB8.mono hb6d.size)
  generalize w7.alloc (.cells #[.int .u64 (w : Nat)] 22) = w8 at *
  have hB9 : Below w8.heap.size w8 (w8.alloc (.cells #[.slice orr rn capr, .slice (some ⟨w7.heap.size, 0, none⟩) 1 1] 27)) := (Below.refl _ w8).alloc (Nat.le_refl _) _
  have e9 := World.cell?_alloc_new w8 #[.slice orr rn capr, .slice (some ⟨w7.heap.size, 0, none⟩) 1 1] 27
  have hS9 : (w8.alloc (.cells #[.slice orr rn capr, .slice (some ⟨w7.heap.size, 0, none⟩) 1 1] 27)).heap[B18]? = some (.cells #[.int .i64 k, .bool true, .int .i64 0, .string ⟨#[]⟩, .slice none 0 0, .slice none 0 0, .int .u64 (ba : Nat), .int .i64 (pf : Nat), .int .i64 n] 43) := (hB9.block B18 (lt_get hS8)).trans hS8
  refine wpAnyH_ready (rs := [5]) (by kernel_rfl) (by simp) ?_
  refine AllReadyH.cons rfl (fun K hK => ?_) AllReadyH.nil
  go_simp
  refine hK.out _ _ hS9 (fun _ => ?_)
  clear hK K
  (try simp only [Act.put, List.getElem_toArray, List.getElem_cons_zero, List.getElem_cons_succ, List.setIfInBounds_toArray, List.set_cons_zero, List.set_cons_succ])
  have hb9 := hb8.trans (hB9.mono hb8.size)
  have hw9 := words_below hw8 hB9
  have hr9 := words_below HR.out hb9
  have d0 := e9 0
  have d1 := e9 1
  simp only [List.getElem?_toArray, List.getElem?_cons_succ, List.getElem?_cons_zero] at d0 d1
  have cc := sconcat_c (w8.alloc (.cells #[.slice orr rn capr, .slice (some ⟨w7.heap.size, 0, none⟩) 1 1] 27)) w8.heap.size 2 _ _ rs [w] d0 d1 hr9 hw9 (by show rs.length + 1 ≤ 2000000; have := HLR.out; omega) (by show 0 < 1; omega)
  generalize w8.alloc (.cells #[.slice orr rn capr, .slice (some ⟨w7.heap.size, 0, none⟩) 1 1] 27) = w9 at *
  refine wpAnyH_ready (rs := [6]) (by kernel_rfl) (by simp) ?_
  refine AllReadyH.cons rfl (fun K hK => ?_) AllReadyH.nil
  go_simp
  refine cc.mono ?_
  rintro e w10 ⟨v10, rfl, hB10, hv10⟩
  refine hK.out _ _ ((hB10.block B18 (lt_get hS9)).trans hS9) (fun hS10 => ?_)
  clear hK K cc
  (try simp only [Act.put, List.getElem_toArray, List.getElem_cons_zero, List.getElem_cons_succ, List.setIfInBounds_toArray, List.set_cons_zero, List.set_cons_succ])
  have hb10 := hb9.trans (hB10.mono hb9.size)
  have cp := HP.out w10 v10 hb10 hv10
  obtain ⟨o10, c10, hv, hx10⟩ := id hv10
  subst hv
  clear hv10 hx10
  generalize (rs ++ [w]).length = L10 at *
  refine wpAnyH_ready (rs := [7]) (by kernel_rfl) (by simp) ?_
  refine AllReadyH.cons rfl (fun K hK => ?_) AllReadyH.nil
  go_simp
  refine cp.mono ?_
  rintro e w11 ⟨rfl, hQ⟩
  obtain ⟨hQ1, hk1⟩ := hQ
  refine hK.out _ _ ((hk1 B18 HB18.out (lt_get hS10)).trans hS10) (fun hS11 => ?_)
  clear hK K cp
  (try simp only [Act.put, List.getElem_toArray, List.getElem_cons_zero, List.getElem_cons_succ, List.setIfInBounds_toArray, List.set_cons_zero, List.set_cons_succ])
  have hS := hS11
  (refine wpAnyH_take (i := 8) (v := ?_) rfl (by kernel_rfl) (by kernel_rfl) (by kernel_rfl) (fun _ _ _ h => h) (Or.inl ⟨by rfl, ?_⟩) hS ?_); rotate_left; (focus (intro w' hSw; (have ec := fun j => cell_of_row w' B18 j _ _ _ hSw); go_simp; (try with_reducible rfl))); (try simp only [Act.put, List.getElem_toArray, List.getElem_cons_zero, List.getElem_cons_succ, List.setIfInBounds_toArray, List.set_cons_zero, List.set_cons_succ])
  (refine wpAnyH_take (i := 9) (v := ?_) rfl (by kernel_rfl) (by kernel_rfl) (by kernel_rfl) (fun _ _ _ h => h) (Or.inl ⟨by rfl, ?_⟩) hS ?_); rotate_left; (focus (intro w' hSw; (have ec := fun j => cell_of_row w' B18 j _ _ _ hSw); go_simp; (try with_reducible rfl))); (try simp only [Act.put, List.getElem_toArray, List.getElem_cons_zero, List.getElem_cons_succ, List.setIfInBounds_toArray, List.set_cons_zero, List.set_cons_succ])
  (refine wpAnyH_take (i := 10) (v := ?_) rfl (by kernel_rfl) (by kernel_rfl) (by kernel_rfl) (fun _ _ _ h => h) (Or.inl ⟨by rfl, ?_⟩) hS ?_); rotate_left; (focus (intro w' hSw; (have ec := fun j => cell_of_row w' B18 j _ _ _ hSw); go_simp; (try with_reducible rfl))); (try simp only [Act.put, List.getElem_toArray, List.getElem_cons_zero, List.getElem_cons_succ, List.setIfInBounds_toArray, List.set_cons_zero, List.set_cons_succ])
  (refine wpAnyH_take (i := 11) (v := ?_) rfl (by kernel_rfl) (by kernel_rfl) (by kernel_rfl) (fun _ _ _ h => h) (Or.inl ⟨by rfl, ?_⟩) hS ?_); rotate_left; (focus (intro w' hSw; (have ec := fun j => cell_of_row w' B18 j _ _ _ hSw); go_simp; (try with_reducible rfl))); (try simp only [Act.put, List.getElem_toArray, List.getElem_cons_zero, List.getElem_cons_succ, List.setIfInBounds_toArray, List.set_cons_zero, List.set_cons_succ])
  refine wpAnyH_done (by kernel_rfl) ?_ _
  go_wp2
  go_ret2
  exact ⟨rfl, hQ1⟩
end
end Go.Proofs.YtenpopelbmeemaaGreat.W
