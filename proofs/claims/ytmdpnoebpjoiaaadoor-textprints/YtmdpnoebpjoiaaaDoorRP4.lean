/- Contracts of the reference: what is printed of whole numbers and doubles. -/
import Derived.Test.YtmdpnoebpjoiaaaDoorG4
namespace Go.Proofs.YtmdpnoebpjoiaaaDoor.W
open Go.ChangeShapes Go.WideShapes Go.RowKit

theorem conv_one (w : World) (c : UInt8) : (convert 47 9 (.slice (some ⟨w.heap.size, 0, none⟩) 1 1)).run Tryd.prog (w.alloc (.cells #[.int .u8 c.toNat] 5)) = .ok (.string ⟨#[c]⟩) (w.alloc (.cells #[.int .u8 c.toNat] 5)) := by
  have h := World.ownsRow_lit (base := w.heap.size) (size := 1) (e := 5) w #[.int .u8 c.toNat] 1 (Nat.le_refl _) (by unfold maxLen; omega) rfl
  exact conv_own [c] h
def strLen : Value → Nat | .string s => s.size | _ => 0
theorem hexd_dig (d : Nat) (h : d < 10) : hexd d = dig d := by unfold hexd dig; rw [if_pos h]
theorem dec_next (m : Nat) (l : List UInt8) : decL m ++ l = if m / 10 = 0 then dig (m % 10) :: l else decL (m / 10) ++ (dig (m % 10) :: l) := by
  by_cases h : m < 10
  · rw [if_pos (by omega), decL_small h, Nat.mod_eq_of_lt h]; rfl
  · rw [if_neg (by omega), decL_step h]; simp
set_option maxHeartbeats 400000 in
theorem refSize_c (N : Nat) (hN : N < 18446744073709551616) (w : World) :
    Calls Tryd.prog 25 #[.int .u64 N] w fun e w' => e = .returned (.string ⟨(decL N).toArray⟩) ∧ Below w.heap.size w w' := by
  have hlen := decL_length N 20 (by omega) (by omega)
  have HL := hid hlen
  clear hlen
  go_enter Tryd.func25, Tryd.ntmps25
  go_wp2_with fail
  go_loopw [0, 3] (fun x tt wr => ∃ (m : Nat) (l : List UInt8), x = .int .u64 m ∧ tt = .string ⟨l.toArray⟩ ∧ m ≤ N ∧ decL N = decL m ++ l ∧ Below w.heap.size w wr) (fun x _ _ => (intOf x).toNat)
  case atStart => exact ⟨N, [], rfl, rfl, Nat.le_refl _, by rw [List.append_nil], Below.refl _ _⟩
  case round =>
    obtain ⟨m, l, rfl, rfl, hm, hd, hb⟩ := hrel
    have ll : l.length ≤ 20 := by
      have := HL.out
      rw [hd, List.length_append] at this
      omega
    have e1 : (m : Int) % 10 = ((m % 10 : Nat) : Int) := by omega
    have e2 : (m : Int) / 10 = ((m / 10 : Nat) : Int) := by omega
    have d10 : m % 10 < 10 := by omega
    have hn := dec_next m l
    have hm2 : m / 10 ≤ N := by omega
    have hdec : m / 10 ≠ 0 → m / 10 < m := by omega
    have HD := hid hdec
    have u1 : (m : Int) < 18446744073709551616 := by omega
    have u0 : (0 : Int) ≤ (m : Int) := by omega
    rw [← hexd_dig _ d10] at hn
    generalize m % 10 = d at *
    have d16n : d < 16 := by omega
    have hx := hex_index d d16n
    generalize hexd d = c at *
    generalize m / 10 = q at *
    have kc := fun wr => conv_one wr c
    have cc := fun w => run_string_add_lists (P := Tryd.prog) w [c] l (by simp) (by omega)
    have d16 : (d : Int) < 16 := by omega
    rw [List.singleton_append] at cc
    clear hdec
    by_cases hq : q = 0
    · rw [if_pos hq] at hn
      have H := hid (hd.trans hn)
      have hq' : ((q : Int) == 0) = true := by rw [hq]; rfl
      clear hn hd hq
      generalize (m : Int) = M at *
      generalize (q : Int) = Q at *
      go_wp2_with fail
      go_ret
      exact ⟨ret_s H.out.symm, hb.alloc hb.size _⟩
    · rw [if_neg hq] at hn
      have H := hid (hd.trans hn)
      have hq' : ((q : Int) == 0) = false := by rw [beq_eq_false_iff_ne]; omega
      have HQ := hid hq
      clear hn hd hq
      go_wp2_with fail
      go_roundw
      case rel => exact ⟨q, c :: l, by go_num, rfl, hm2, H.out, hb.alloc hb.size _⟩
      case measure => simp [intOf]; exact HD.out HQ.out
theorem refInt_c (i : Int) (h0 : -9223372036854775808 ≤ i) (h1 : i ≤ 9223372036854775807) (w : World) :
    Calls Tryd.prog 10 #[.int .i64 i] w fun e w' => e = .returned (.string ⟨(intT i).toArray⟩) ∧ Below w.heap.size w w' := by
  by_cases hs : i < 0
  · have H := hid (show intT i = 45 :: decL i.natAbs by unfold intT; rw [if_pos hs])
    have c := fun w => refSize_c i.natAbs (by omega) w
    have hl := decL_length i.natAbs 19 (by omega) (by omega)
    have ca := fun w => run_string_add_lists (P := Tryd.prog) w [45] (decL i.natAbs) (by decide) (by omega)
    have e1 : IntKind.u64.wrap (IntKind.u64.wrap (IntKind.i64.wrap (-(i + 1))) + 1) = ((i.natAbs : Nat) : Int) := by
      rw [IntKind.wrap_u64, IntKind.wrap_u64, IntKind.wrap_i64]; omega
    have e2 : -(i + 1) + 1 = ((i.natAbs : Nat) : Int) := by omega
    generalize ((i.natAbs : Nat) : Int) = n at *
    generalize decL i.natAbs = D at *
    clear hl
    go_enter Tryd.func10, Tryd.ntmps10
    go_wp2_with (go_at_call 25; refine (c _).mono ?_; rintro e w' ⟨rfl, hb⟩)
    go_ret
    exact ⟨ret_s H.out.symm, hb⟩
  · have H := hid (show intT i = decL i.natAbs by unfold intT; rw [if_neg hs])
    have c := fun w => refSize_c i.natAbs (by omega) w
    have e2 : ((i.natAbs : Nat) : Int) = i := by omega
    rw [e2] at c
    generalize decL i.natAbs = D at *
    go_enter Tryd.func10, Tryd.ntmps10
    go_wp2_with (go_at_call 25; refine (c _).mono ?_; rintro e w' ⟨rfl, hb⟩)
    go_ret
    exact ⟨ret_s H.out.symm, hb⟩
/-- doubling a small pattern until its highest bit stands at 52 -/
theorem dbl_lt (a k : Nat) (h0 : a ≠ 0) (h1 : a < 4503599627370496) (hk : k ≤ 52 - a.log2) : (a * 2 ^ k < 4503599627370496 ↔ k < 52 - a.log2) ∧ a * 2 ^ k < 9007199254740992 := by
  obtain ⟨s1, s2, s3⟩ := shl_log (a : Int) (by omega) (by omega)
  rw [Int.toNat_natCast] at s1 s2 s3
  have e : ((a : Int) * 2 ^ (52 - a.log2)) = ((a * 2 ^ (52 - a.log2) : Nat) : Int) := by simp
  rw [e] at s2 s3
  have le : a * 2 ^ k ≤ a * 2 ^ (52 - a.log2) := Nat.mul_le_mul_left _ (Nat.pow_le_pow_right (by decide) hk)
  refine ⟨?_, by omega⟩
  constructor
  · intro h
    apply Nat.lt_of_not_le
    intro hle
    have : k = 52 - a.log2 := by omega
    rw [this] at h
    omega
  · intro h
    have : a * 2 ^ k * 2 ≤ a * 2 ^ (52 - a.log2) := by
      rw [Nat.mul_assoc, ← Nat.pow_succ]
      exact Nat.mul_le_mul_left _ (Nat.pow_le_pow_right (by decide) (by omega))
    omega
end Go.Proofs.YtmdpnoebpjoiaaaDoor.W
