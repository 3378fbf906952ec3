import Derived.Test.YtbgabpgohkcahaaBase4
/- Contracts of package word's FromText and of the statements' awake. -/
namespace Go.Proofs.Ytbgabpgohkcahaa.W
open Go.ChangeShapes Go.WideShapes Go.RowKit

theorem take_snoc (s : ByteArray) (k : Nat) (h : k < s.size) : s.data.toList.take (k + 1) = s.data.toList.take k ++ [s[k]] := by
  rw [List.take_succ_eq_append_getElem (by simpa using h)]; rfl
theorem pow8 (k : Nat) : 2 ^ (8 * k) = 256 ^ k := by rw [Nat.pow_mul]
theorem pow_lt5 (k : Nat) (h : k ≤ 5) : 256 ^ k ≤ 1099511627776 := by
  have := Nat.pow_le_pow_right (n := 256) (by decide) h
  have e : 256 ^ 5 = 1099511627776 := by decide
  omega
theorem or_byte (z k b e : Nat) (hz : z ≤ 5) (hk : k < 5) (he : e < 256 ^ k) (hb : b < 256) :
    bits .or .u64 ((z : Int) * 1099511627776 + (e : Int)) (IntKind.u64.wrap (IntKind.u64.wrap (b : Int) * 2 ^ (8 * k))) = (z : Int) * 1099511627776 + ((e + b * 256 ^ k : Nat) : Int) := by
  have e1 : IntKind.u64.wrap (b : Int) = b := by rw [IntKind.wrap_u64]; omega
  have hp := pow_lt5 (k + 1) (by omega)
  rw [Nat.pow_succ] at hp
  have hbk : b * 256 ^ k ≤ 255 * 256 ^ k := Nat.mul_le_mul_right _ (by omega)
  have e2 : (b : Int) * 2 ^ (8 * k) = ((b * 256 ^ k : Nat) : Int) := by rw [← pow8]; simp
  have e3 : IntKind.u64.wrap ((b * 256 ^ k : Nat) : Int) = ((b * 256 ^ k : Nat) : Int) := by rw [IntKind.wrap_u64]; exact Int.emod_eq_of_lt (Int.natCast_nonneg _) (by omega)
  have e4 : (z : Int) * 1099511627776 + (e : Int) = ((z * 1099511627776 + e : Nat) : Int) := by omega
  rw [e1, e2, e3, e4, u64_or_nat _ _ (by omega) (by omega)]
  have j1 : z * 1099511627776 + e = z * 1099511627776 ||| e := (nat_join 40 _ _ (by omega) (by omega)).symm
  have j2 : e ||| b * 256 ^ k = b * 256 ^ k + e := by
    rw [Nat.or_comm, ← pow8]
    exact nat_join (8 * k) _ _ (Nat.mul_mod_left _ _) (by rw [pow8]; exact he)
  rw [j1, Nat.or_assoc, j2, nat_join 40 _ _ (by omega) (by omega)]
  omega
theorem enc_step (s : ByteArray) (k : Nat) (hs : s.size ≤ 5) (h : k < s.size) :
    bits .or .u64 ((s.size : Int) * 1099511627776 + (encN (s.data.toList.take k) : Int)) (IntKind.u64.wrap (IntKind.u64.wrap (s[k].toNat : Int) * 2 ^ (8 * k))) = (s.size : Int) * 1099511627776 + (encN (s.data.toList.take (k + 1)) : Int) := by
  have hl : (s.data.toList.take k).length = k := by
    have : k < s.data.toList.length := by simpa using h
    rw [List.length_take]; omega
  have he := encN_lt (s.data.toList.take k)
  rw [take_snoc s k h, encN_snoc]
  rw [hl] at he ⊢
  exact or_byte s.size k s[k].toNat _ hs (by omega) he s[k].toNat_lt
theorem enc_all (s : ByteArray) (k : Nat) (h : ¬ k < s.size) : s.data.toList.take k = s.data.toList := List.take_of_length_le (by simp; omega)
theorem enc_lt (s : ByteArray) (hs : s.size ≤ 5) : (s.size : Int) * 1099511627776 + (encN s.data.toList : Int) < 281474976710656 := by
  have he := encN_lt s.data.toList
  have hl : s.data.toList.length = s.size := by simp
  rw [hl] at he
  have := pow_lt5 s.size hs
  omega
set_option maxHeartbeats 400000 in
theorem fromText_c (s : ByteArray) (hs : s.size ≤ maxLen) (w : World) :
    Calls Try.prog 42 #[.string s] w fun e w' => e = .returned (.tuple #[.int .u64 (txtW s), .bool (decide (s.size ≤ 5))]) ∧ w' = w := by
  unfold maxLen at hs
  by_cases c : s.size ≤ 5
  · have H := hid (show txtW s = 18445055223849287680 + s.size * 1099511627776 + encN s.data.toList by simp [txtW, c])
    go_enter Try.func42, Try.ntmps42
    go_wp2
    go_loop [4, 15] (fun l i => ∃ k : Nat, k ≤ s.size ∧ i = .int .i64 k ∧ l = .int .u64 (s.size * 1099511627776 + encN (s.data.toList.take k))) (fun _ i => s.size - (intOf i).toNat)
    case atStart => exact ⟨0, Nat.zero_le _, rfl, int_eq (by simp [encN])⟩
    case round =>
      obtain ⟨k, hk, rfl, rfl⟩ := hrel
      by_cases hlt : k < s.size
      · go_wp2
        go_round
        case rel => exact ⟨k + 1, hlt, by go_num, int_eq (enc_step s k c hlt)⟩
        case measure => simp [intOf]; omega
      · have hb := enc_lt s c
        have he := enc_all s k hlt
        rw [he]
        clear he
        go_wp2_with (go_at_call 39; refine (join_c _ _ (by omega) (by omega) (by omega) (by omega) _).mono ?_; rintro e w' ⟨rfl, rfl⟩)
        go_ret2
        exact ⟨ret_ib (by rw [H.out]; omega) (by simpa using c), rfl⟩
  · have H := hid (show txtW s = 0 by simp [txtW, c])
    go_enter Try.func42, Try.ntmps42
    go_wp2
    go_ret2
    exact ⟨ret_ib H.out.symm (by simpa using c), rfl⟩
theorem txtW_ab : txtW ⟨#[97, 98]⟩ = 18445057422872568417 := by decide
end Go.Proofs.Ytbgabpgohkcahaa.W
