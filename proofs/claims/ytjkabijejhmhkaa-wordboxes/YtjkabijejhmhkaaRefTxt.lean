/- The contract of the reference's FromText: it returns what package word's own does; the world has at most drawn. -/
import Derived.Test.YtjkabijejhmhkaaRef
namespace Go.Proofs.Ytjkabijejhmhkaa.W
open Go.ChangeShapes Go.WideShapes Go.RowKit

theorem enc_step' (s : ByteArray) (k : Nat) (h : k < s.size) :
    (encN (s.data.toList.take k) : Int) + (s[k].toNat : Int) * 2 ^ (8 * k) = (encN (s.data.toList.take (k + 1)) : Int) := by
  have hl : (s.data.toList.take k).length = k := by
    have : k < s.data.toList.length := by simpa using h
    rw [List.length_take]; omega
  rw [take_snoc s k h, encN_snoc, hl, ← pow8]
  simp
theorem add_step (s : ByteArray) (k : Nat) (hs : s.size ≤ 5) (h : k < s.size) :
    IntKind.u64.wrap ((s.size : Int) * 1099511627776 + (encN (s.data.toList.take k) : Int) + IntKind.u64.wrap (IntKind.u64.wrap (s[k].toNat : Int) * 2 ^ (8 * k))) = (s.size : Int) * 1099511627776 + (encN (s.data.toList.take (k + 1)) : Int) := by
  have hb := s[k].toNat_lt
  have e1 : IntKind.u64.wrap (s[k].toNat : Int) = s[k].toNat := by rw [IntKind.wrap_u64]; omega
  have hp := pow_lt5 (k + 1) (by omega)
  rw [Nat.pow_succ] at hp
  have hbk : s[k].toNat * 256 ^ k ≤ 255 * 256 ^ k := Nat.mul_le_mul_right _ (by omega)
  have e2 : (s[k].toNat : Int) * 2 ^ (8 * k) = ((s[k].toNat * 256 ^ k : Nat) : Int) := by rw [← pow8]; simp
  have e3 : IntKind.u64.wrap ((s[k].toNat * 256 ^ k : Nat) : Int) = ((s[k].toNat * 256 ^ k : Nat) : Int) := by rw [IntKind.wrap_u64]; exact Int.emod_eq_of_lt (Int.natCast_nonneg _) (by omega)
  have st := enc_step' s k h
  have hl : (s.data.toList.take (k + 1)).length = k + 1 := by
    have : k < s.data.toList.length := by simpa using h
    rw [List.length_take]; omega
  have he := encN_lt (s.data.toList.take (k + 1))
  rw [hl, Nat.pow_succ] at he
  rw [e1, e2, e3, Int.add_assoc, ← e2, st, IntKind.wrap_u64]
  omega
set_option maxHeartbeats 400000 in
theorem refFromText_c (s : ByteArray) (hs : s.size ≤ maxLen) (w : World) :
    Calls Try.prog 29 #[.string s] w fun e w' => e = .returned (.tuple #[.int .u64 (txtW s), .bool (decide (s.size ≤ 5))]) ∧ ∃ m, w' = w.drewN m := by
  unfold maxLen at hs
  by_cases c : s.size ≤ 5
  · have H := hid (show txtW s = 18445055223849287680 + s.size * 1099511627776 + encN s.data.toList by simp [txtW, c])
    go_enter Try.func29, Try.ntmps29
    go_wp2_with (go_at_call 39; refine (power_i _ (by omega) (by omega) _).mono ?_; rintro e w' ⟨rfl, rfl⟩)
    go_loopw [4, 5] (fun l i wr => ∃ k m : Nat, k ≤ s.size ∧ i = .int .i64 k ∧ l = .int .u64 (s.size * 1099511627776 + encN (s.data.toList.take k)) ∧ wr = w'.drewN m) (fun _ i _ => s.size - (intOf i).toNat)
    case atStart => exact ⟨0, 0, Nat.zero_le _, rfl, int_eq (by simp [encN]), rfl⟩
    case round =>
      obtain ⟨k, m, hk, rfl, rfl, hm⟩ := hrel
      have HM := hid hm
      clear hm
      by_cases hlt : k < s.size
      · have e8 : IntKind.i64.wrap (8 * (k : Int)) = 8 * k := by rw [IntKind.wrap_i64]; omega
        go_wp2_with fail
        go_quiet ((go_at_call 39; exact Calls.quiet_of_same (power_i _ (by omega) (by omega) _)))
        go_wp2_with fail
        exact ⟨⟨k + 1, m + nq, hlt, by go_num, int_eq (add_step s k c hlt), by rw [HM.out, World.drewN_drewN]⟩, by simp [intOf]; omega⟩
      · have hb := enc_lt s c
        have he := enc_all s k hlt
        rw [he]
        clear he
        go_wp2
        go_ret2
        exact ⟨ret_ib (by rw [H.out]; omega) (by simpa using c), _, HM.out⟩
  · have H := hid (show txtW s = 0 by simp [txtW, c])
    go_enter Try.func29, Try.ntmps29
    go_wp2
    go_ret2
    exact ⟨ret_ib H.out.symm (by simpa using c), 0, rfl⟩
end Go.Proofs.Ytjkabijejhmhkaa.W
