/- The walk of the statement NumRing: it returns true at every two whole numbers. -/
import Derived.Test.YtpbcplgpbafjpabNumRingA
import Derived.Test.YtpbcplgpbafjpabNumRingB
namespace Go.Proofs.Ytpbcplgpbafjpab.W
open Go.ChangeShapes Go.WideShapes Go.RowKit
theorem half_sum (a b : Int) (a0 : -9223372036854775808 ≤ a) (a1 : a < 9223372036854775808) (b0 : -9223372036854775808 ≤ b) (b1 : b < 9223372036854775808) (hf : ¬ (-9223372036854775808 ≤ a + b ∧ a + b < 9223372036854775808)) (h : Int)
    (hh : IntKind.i64.wrap (IntKind.i64.wrap (IntKind.i64.wrap (a.tdiv 2) + IntKind.i64.wrap (b.tdiv 2)) + IntKind.i64.wrap ((IntKind.i64.wrap (a.tmod 2 + b.tmod 2)).tdiv 2)) = h) : ¬ -4611686018427387904 < h ∨ (-4611686018427387904 < h ∧ ¬ h < 4611686018427387903) := by
  obtain ⟨t1, t2, -, t4, t5⟩ := tdiv_spec a 2 (by decide)
  obtain ⟨s1, s2, -, s4, s5⟩ := tdiv_spec b 2 (by decide)
  have t2' := t2 (by decide)
  have s2' := s2 (by decide)
  have e6 : IntKind.i64.wrap (a.tmod 2 + b.tmod 2) = a.tmod 2 + b.tmod 2 := wrap_in (by omega)
  rw [e6] at hh
  obtain ⟨r1, r2, -, r4, r5⟩ := tdiv_spec (a.tmod 2 + b.tmod 2) 2 (by decide)
  have r2' := r2 (by decide)
  generalize (a.tmod 2 + b.tmod 2).tmod 2 = rm at *
  generalize (a.tmod 2 + b.tmod 2).tdiv 2 = rq at *
  generalize a.tdiv 2 = qa at *
  generalize b.tdiv 2 = qb at *
  generalize a.tmod 2 = ra at *
  generalize b.tmod 2 = rb at *
  have e1 : IntKind.i64.wrap qa = qa := wrap_in (by omega)
  have e2 : IntKind.i64.wrap qb = qb := wrap_in (by omega)
  have e7 : IntKind.i64.wrap rq = rq := wrap_in (by omega)
  rw [e1, e2, e7] at hh
  have e3 : IntKind.i64.wrap (qa + qb) = qa + qb := wrap_in (by omega)
  rw [e3] at hh
  have e8 : IntKind.i64.wrap (qa + qb + rq) = qa + qb + rq := wrap_in (by omega)
  rw [e8] at hh
  omega
theorem numRing_walk (a0 : Int) (a1 : Int) (w0 : (Lit.int .i64 a0).wf = true) (w1 : (Lit.int .i64 a1).wf = true) (w : World) :
    Calls Try.prog 3 #[.int .i64 a0, .int .i64 a1] w fun e w' => e = .returned (.bool true) ∧ Below w.heap.size w w' := by
  obtain ⟨h0, h0'⟩ := bounds_i64 w0
  obtain ⟨h1, h1'⟩ := bounds_i64 w1
  refine Calls.mono (R := fun e w' => e = .returned (.bool true) ∧ Gr w w') ?_ (fun _ _ ⟨h, g⟩ => ⟨h, g.below⟩)
  have c1 := numAdd_c true true a0 0 a1 0 (by omega) (by omega) (by omega) (by omega)
  have c2 := numAdd_c true true a1 0 a0 0 (by omega) (by omega) (by omega) (by omega)
  have c4 := numMul_c true true a0 0 a1 0 (by omega) (by omega) (by omega) (by omega)
  have c5 := numMul_c true true a1 0 a0 0 (by omega) (by omega) (by omega) (by omega)
  have c6 := numNeg_c true a0 0 (by omega) (by omega) (by decide) (by decide)
  have c7 := numSub_c true true 0 0 a0 0 (by decide) (by decide) (by omega) (by omega)
  have x1 : addR true a0 0 true a1 0 = fitR (a0 + a1) := if_pos ⟨rfl, rfl⟩
  have x2 : addR true a1 0 true a0 0 = fitR (a0 + a1) := by
    have : addR true a1 0 true a0 0 = fitR (a1 + a0) := if_pos ⟨rfl, rfl⟩
    rw [this, Int.add_comm]
  have x4 : mulR true a0 0 true a1 0 = fitR (a0 * a1) := if_pos ⟨rfl, rfl⟩
  have x5 : mulR true a1 0 true a0 0 = fitR (a0 * a1) := by
    have : mulR true a1 0 true a0 0 = fitR (a1 * a0) := if_pos ⟨rfl, rfl⟩
    rw [this, Int.mul_comm]
  have x6 : negR true a0 0 = fitR (-a0) := if_pos rfl
  have x7 : subR true 0 0 true a0 0 = fitR (-a0) := by
    have : subR true 0 0 true a0 0 = fitR (0 - a0) := if_pos ⟨rfl, rfl⟩
    rw [this, Int.zero_sub]
  rw [x1] at c1
  rw [x2] at c2
  rw [x4] at c4
  rw [x5] at c5
  rw [x6] at c6
  rw [x7] at c7
  have hM : ((fitR (a0 * a1)).e == 0) = false ∨ (((fitR (a0 * a1)).e == 0) = true ∧ (a1 != 0) = false) ∨ (((fitR (a0 * a1)).e == 0) = true ∧ (a1 != 0) = true ∧ ¬ a1 = 0 ∧ ((fitR (a0 * a1)).i.tmod a1 != 0) = false ∧ (a1 == -1) = true ∧ ((fitR (a0 * a1)).i == -9223372036854775808) = true) ∨ (((fitR (a0 * a1)).e == 0) = true ∧ (a1 != 0) = true ∧ ¬ a1 = 0 ∧ ((fitR (a0 * a1)).i.tmod a1 != 0) = false ∧ ((a1 == -1) = true ∧ ((fitR (a0 * a1)).i == -9223372036854775808) = false ∨ (a1 == -1) = false) ∧ (IntKind.i64.wrap ((fitR (a0 * a1)).i.tdiv a1) != a0) = false ∧ Hid ((wrap64 ((fitR (a0 * a1)).i.tdiv a1) != a0) = false)) := by
    by_cases hf : -9223372036854775808 ≤ a0 * a1 ∧ a0 * a1 < 9223372036854775808
    · rw [fitR_in hf]
      show (0 == 0) = false ∨ ((0 == 0) = true ∧ (a1 != 0) = false) ∨ ((0 == 0) = true ∧ (a1 != 0) = true ∧ ¬ a1 = 0 ∧ ((a0 * a1).tmod a1 != 0) = false ∧ (a1 == -1) = true ∧ ((a0 * a1) == -9223372036854775808) = true) ∨ ((0 == 0) = true ∧ (a1 != 0) = true ∧ ¬ a1 = 0 ∧ ((a0 * a1).tmod a1 != 0) = false ∧ ((a1 == -1) = true ∧ ((a0 * a1) == -9223372036854775808) = false ∨ (a1 == -1) = false) ∧ (IntKind.i64.wrap ((a0 * a1).tdiv a1) != a0) = false ∧ Hid ((wrap64 ((a0 * a1).tdiv a1) != a0) = false))
      by_cases hb : a1 = 0
      · exact Or.inr (Or.inl ⟨rfl, by simpa using hb⟩)
      · have e1 : (a0 * a1).tmod a1 = 0 := Int.mul_tmod_left _ _
        have e2 : (a0 * a1).tdiv a1 = a0 := Int.mul_tdiv_cancel _ hb
        have e3 : IntKind.i64.wrap a0 = a0 := wrap_in (by omega)
        have e4 : wrap64 a0 = a0 := IntWalk.wrap64_in a0 (by omega)
        rw [e1, e2, e3, e4]
        have hb' : (a1 != 0) = true := by simpa using hb
        by_cases hm : a1 = -1
        · by_cases hp : a0 * a1 = -9223372036854775808
          · exact Or.inr (Or.inr (Or.inl ⟨rfl, hb', hb, rfl, by simpa using hm, by simpa using hp⟩))
          · exact Or.inr (Or.inr (Or.inr ⟨rfl, hb', hb, rfl, Or.inl ⟨by simpa using hm, by simpa using hp⟩, by simp, hid (by simp)⟩))
        · exact Or.inr (Or.inr (Or.inr ⟨rfl, hb', hb, rfl, Or.inr (by simpa using hm), by simp, hid (by simp)⟩))
    · rw [fitR_out hf]; exact Or.inl rfl
  have hN : (((fitR (-a0)).e == 0) = true ∧ (a0 != -9223372036854775808) = true) ∨ (((fitR (-a0)).e == 0) = false ∧ (a0 != -9223372036854775808) = false) := by
    by_cases hm : a0 = -9223372036854775808
    · rw [fitR_out (by omega)]; exact Or.inr ⟨rfl, by simpa using hm⟩
    · rw [fitR_in (by omega)]; exact Or.inl ⟨rfl, by simpa using hm⟩
  by_cases hf : -9223372036854775808 ≤ a0 + a1 ∧ a0 + a1 < 9223372036854775808
  · rw [fitR_in hf] at c1 c2
    have c3 := numSub_c true true (a0 + a1) 0 a1 0 hf.1 hf.2 (by omega) (by omega)
    have x3 : subR true (a0 + a1) 0 true a1 0 = okW a0 := by
      have : subR true (a0 + a1) 0 true a1 0 = fitR (a0 + a1 - a1) := if_pos ⟨rfl, rfl⟩
      rw [this, Int.add_sub_cancel, fitR_in (by omega)]
    rw [x3] at c3
    exact numRing_ok a0 a1 (a0 + a1) _ _ _ _ _ _ _ _ _ _ _ _ _ _ _ _ w rfl rfl rfl rfl rfl rfl rfl rfl (wrap_in hf) hM hN c1 c2 c3 c4 c5 c6 c7
  · rw [fitR_out hf] at c1 c2
    exact numRing_bad a0 a1 _ _ _ _ _ _ _ _ _ _ _ _ _ _ _ _ w rfl rfl rfl rfl rfl rfl rfl rfl (half_sum a0 a1 (by omega) (by omega) (by omega) (by omega) hf _ rfl) hM hN c1 c2 c4 c5 c6 c7
end Go.Proofs.Ytpbcplgpbafjpab.W
