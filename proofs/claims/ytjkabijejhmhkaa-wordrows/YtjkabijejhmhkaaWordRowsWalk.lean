/- The walk of the statement WordRows: it returns true at every whole number and every text. -/
import Derived.Test.YtjkabijejhmhkaaTxt
import Derived.OpenShut
import Derived.RowKit3
import Derived.Outline
namespace Go.Proofs.Ytjkabijejhmhkaa.W
open Go.ChangeShapes Go.WideShapes Go.RowKit

theorem encN_get (l : List UInt8) (k : Nat) : encN l / 256 ^ k % 256 = (l[k]?.map UInt8.toNat).getD 0 := by
  induction l generalizing k with
  | nil => simp [encN]
  | cons b r ih =>
    have hb := b.toNat_lt
    cases k with
    | zero => simp [encN]
    | succ k =>
      simp only [encN, Nat.pow_succ, List.getElem?_cons_succ]
      rw [← ih k, Nat.mul_comm (256 ^ k), ← Nat.div_div_eq_div_mul]
      have : (b.toNat + 256 * encN r) / 256 = encN r := by omega
      rw [this]
theorem byte_at (s : ByteArray) (k : Nat) (hs : s.size ≤ 5) (hk : k < 5) : txtW s / 2 ^ (8 * k) % 256 = (((s.data.toList[k]?.map UInt8.toNat).getD 0 : Nat) : Int) := by
  rw [← encN_get]
  have e1 : txtW s = ((256 ^ (k + 1) * ((16775680 + s.size) * 256 ^ (4 - k)) + encN s.data.toList : Nat) : Int) := by
    have p : 256 ^ (k + 1) * ((16775680 + s.size) * 256 ^ (4 - k)) = (16775680 + s.size) * 1099511627776 := by
      rw [Nat.mul_left_comm, ← Nat.pow_add, show k + 1 + (4 - k) = 5 from by omega]
    rw [p]
    simp only [txtW, if_pos hs]
    omega
  have e2 : (2 : Int) ^ (8 * k) = ((256 ^ k : Nat) : Int) := by rw [← pow8]; simp
  rw [e1, e2]
  rw [Nat.pow_succ, Nat.mul_assoc, ← Int.natCast_ediv, show (256 : Int) = ((256 : Nat) : Int) from rfl, ← Int.natCast_emod]
  rw [Nat.mul_add_div (Nat.pow_pos (by decide))]
  congr 1
  omega
theorem int_step (i : Int) (h : (0 ≤ i ∧ i < 140737488355327) ∨ (i < -1 ∧ -140737488355328 ≤ i)) : smallB i = true ∧ smallB (i + 1) = true ∧ intW (i + 1) = intW i + 1 ∧ 0 ≤ intW i ∧ intW i < 18446744073709551615 := by
  have a : smallB i = true := by simp [smallB]; omega
  have b : smallB (i + 1) = true := by simp [smallB]; omega
  refine ⟨a, b, ?_, ?_, ?_⟩
  all_goals simp only [intW, a, b, if_true]
  all_goals omega
theorem txtW_bd (s : ByteArray) (h : s.size ≤ 5) : 18445055223849287680 ≤ txtW s ∧ txtW s < 18445336698825998336 := by
  have := enc_lt s h
  simp only [txtW, if_pos h]
  omega
theorem len_of (s : ByteArray) (h : s.size ≤ 5) : bits .and .u64 (txtW s / 1099511627776) 255 = s.size := by
  have hb := txtW_bd s h
  have he := encN_lt s.data.toList
  have hl : s.data.toList.length = s.size := by simp
  rw [hl] at he
  have := pow_lt5 s.size h
  rw [u64_and _ 255 (by omega) (by omega) (by decide) (by decide)]
  have e : (255 : Int).toNat = 2 ^ 8 - 1 := by decide
  rw [e, Nat.and_two_pow_sub_one_eq_mod]
  simp only [txtW, if_pos h]
  omega
theorem byte_in (s : ByteArray) (k : Nat) (hs : s.size ≤ 5) (hk : k < s.size) : txtW s / 2 ^ (8 * k) % 256 = (s[k].toNat : Int) := by
  rw [byte_at s k hs (by omega)]
  have e : s.data.toList[k]? = some s[k] := by
    rw [List.getElem?_eq_getElem (by simpa using hk)]
    rfl
  rw [e]
  rfl
theorem byte_out (s : ByteArray) (k : Nat) (hs : s.size ≤ 5) (hk : k < 5) (h : ¬ k < s.size) : txtW s / 2 ^ (8 * k) % 256 = 0 := by
  rw [byte_at s k hs hk]
  have e : s.data.toList[k]? = none := by
    rw [List.getElem?_eq_none]
    simp
    omega
  rw [e]
  rfl
/-- the five ways through the first half, with what each says -/
theorem ways (i : Int) : ((0 ≤ i ∧ i < 140737488355327) ∨ (i < -1 ∧ -140737488355328 ≤ i)) ∨ i = -1 ∨ 140737488355327 ≤ i ∨ i < -140737488355328 := by omega
set_option maxHeartbeats 2000000 in
theorem wordRows_walk (a0 : Int) (a1 : ByteArray) (w0 : (Lit.int .i64 a0).wf = true) (w1 : a1.size ≤ maxLen) (w : World) :
    Calls Try.prog 8 #[.int .i64 a0, .string a1] w fun e w' => e = .returned (.bool true) ∧ Grown w w' := by
  obtain ⟨h0, h1⟩ := bounds_i64 w0
  have hs := hid w1
  unfold maxLen at w1
  clear w0
  by_cases s0 : 100 < a1.size
  · go_enter Try.func8, Try.ntmps8
    go_wp2
    go_ret
    exact ⟨rfl, Grown.refl _⟩
  by_cases s5 : a1.size ≤ 5
  · obtain ⟨t0, t1⟩ := txtW_bd a1 s5
    have t2 := len_of a1 s5
    have t3 : decide (a1.size ≤ 5) = true := by simpa using s5
    have t4 : decide ((a1.size : Int) ≤ 5) = true := by simp; omega
    rcases ways a0 with c | c | c | c
    · obtain ⟨y1, y2, y3, y4, y5⟩ := int_step a0 c
      rcases c with ⟨c1, c2⟩ | ⟨c1, c2⟩
      all_goals
        go_enter Try.func8, Try.ntmps8
        go_wp2_with (first | (go_at_call 26; refine (fromInt_c _ (by omega) (by omega) _).mono ?_; rintro e w' ⟨rfl, rfl⟩) | (go_at_call 28; refine (fromText_c _ hs.out _).mono ?_; rintro e w' ⟨rfl, rfl⟩) | (go_at_call 19; refine (awake_c _).mono ?_; rintro e w' ⟨rfl, rfl⟩))
        go_loop [13] (fun i => ∃ k : Nat, k ≤ 5 ∧ i = .int .i64 k) (fun i => 5 - (intOf i).toNat)
        case atStart => exact ⟨0, Nat.zero_le _, rfl⟩
        case round =>
          obtain ⟨k, hk, rfl⟩ := hrel
          by_cases hlt : k < 5
          · by_cases hin : k < a1.size
            · have hb := byte_in a1 k s5 hin
              go_wp2
              exact ⟨⟨k + 1, by omega, by go_num⟩, by simp [intOf]; omega⟩
            · have hb := byte_out a1 k s5 hlt hin
              go_wp2
              exact ⟨⟨k + 1, by omega, by go_num⟩, by simp [intOf]; omega⟩
          · go_wp2_with (go_at_call 19; refine (awake_c _).mono ?_; rintro e w' ⟨rfl, rfl⟩)
            go_ret
            exact ⟨rfl, Grown.refl _⟩
    · subst c
      have y1 : intW (-1) = 18445055223849287679 := by decide
      have y2 : intW 0 = 18444773748872577024 := by decide
      have y3 : smallB (-1) = true := by decide
      have y4 : smallB 0 = true := by decide
      go_enter Try.func8, Try.ntmps8
      go_wp2_with (first | (go_at_call 26; refine (fromInt_c _ (by omega) (by omega) _).mono ?_; rintro e w' ⟨rfl, rfl⟩) | (go_at_call 28; refine (fromText_c _ hs.out _).mono ?_; rintro e w' ⟨rfl, rfl⟩) | (go_at_call 19; refine (awake_c _).mono ?_; rintro e w' ⟨rfl, rfl⟩))
      go_loop [13] (fun i => ∃ k : Nat, k ≤ 5 ∧ i = .int .i64 k) (fun i => 5 - (intOf i).toNat)
      case atStart => exact ⟨0, Nat.zero_le _, rfl⟩
      case round =>
        obtain ⟨k, hk, rfl⟩ := hrel
        by_cases hlt : k < 5
        · by_cases hin : k < a1.size
          · have hb := byte_in a1 k s5 hin
            go_wp2
            exact ⟨⟨k + 1, by omega, by go_num⟩, by simp [intOf]; omega⟩
          · have hb := byte_out a1 k s5 hlt hin
            go_wp2
            exact ⟨⟨k + 1, by omega, by go_num⟩, by simp [intOf]; omega⟩
        · go_wp2_with (go_at_call 19; refine (awake_c _).mono ?_; rintro e w' ⟨rfl, rfl⟩)
          go_ret
          exact ⟨rfl, Grown.refl _⟩
    all_goals
      go_enter Try.func8, Try.ntmps8
      go_wp2_with (first | (go_at_call 26; refine (fromInt_c _ (by omega) (by omega) _).mono ?_; rintro e w' ⟨rfl, rfl⟩) | (go_at_call 28; refine (fromText_c _ hs.out _).mono ?_; rintro e w' ⟨rfl, rfl⟩) | (go_at_call 19; refine (awake_c _).mono ?_; rintro e w' ⟨rfl, rfl⟩))
      go_loop [13] (fun i => ∃ k : Nat, k ≤ 5 ∧ i = .int .i64 k) (fun i => 5 - (intOf i).toNat)
      case atStart => exact ⟨0, Nat.zero_le _, rfl⟩
      case round =>
        obtain ⟨k, hk, rfl⟩ := hrel
        by_cases hlt : k < 5
        · by_cases hin : k < a1.size
          · have hb := byte_in a1 k s5 hin
            go_wp2
            exact ⟨⟨k + 1, by omega, by go_num⟩, by simp [intOf]; omega⟩
          · have hb := byte_out a1 k s5 hlt hin
            go_wp2
            exact ⟨⟨k + 1, by omega, by go_num⟩, by simp [intOf]; omega⟩
        · go_wp2_with (go_at_call 19; refine (awake_c _).mono ?_; rintro e w' ⟨rfl, rfl⟩)
          go_ret
          exact ⟨rfl, Grown.refl _⟩
  · have t0 : txtW a1 = 0 := by simp [txtW, s5]
    have t3 : decide (a1.size ≤ 5) = false := by simpa using s5
    have t4 : decide ((a1.size : Int) ≤ 5) = false := by simp; omega
    rcases ways a0 with c | c | c | c
    · obtain ⟨y1, y2, y3, y4, y5⟩ := int_step a0 c
      rcases c with ⟨c1, c2⟩ | ⟨c1, c2⟩
      all_goals
        go_enter Try.func8, Try.ntmps8
        go_wp2_with (first | (go_at_call 26; refine (fromInt_c _ (by omega) (by omega) _).mono ?_; rintro e w' ⟨rfl, rfl⟩) | (go_at_call 28; refine (fromText_c _ hs.out _).mono ?_; rintro e w' ⟨rfl, rfl⟩) | (go_at_call 19; refine (awake_c _).mono ?_; rintro e w' ⟨rfl, rfl⟩))
        go_ret
        exact ⟨rfl, Grown.refl _⟩
    · subst c
      have y1 : intW (-1) = 18445055223849287679 := by decide
      have y2 : intW 0 = 18444773748872577024 := by decide
      have y3 : smallB (-1) = true := by decide
      have y4 : smallB 0 = true := by decide
      go_enter Try.func8, Try.ntmps8
      go_wp2_with (first | (go_at_call 26; refine (fromInt_c _ (by omega) (by omega) _).mono ?_; rintro e w' ⟨rfl, rfl⟩) | (go_at_call 28; refine (fromText_c _ hs.out _).mono ?_; rintro e w' ⟨rfl, rfl⟩) | (go_at_call 19; refine (awake_c _).mono ?_; rintro e w' ⟨rfl, rfl⟩))
      go_ret
      exact ⟨rfl, Grown.refl _⟩
    all_goals
      go_enter Try.func8, Try.ntmps8
      go_wp2_with (first | (go_at_call 26; refine (fromInt_c _ (by omega) (by omega) _).mono ?_; rintro e w' ⟨rfl, rfl⟩) | (go_at_call 28; refine (fromText_c _ hs.out _).mono ?_; rintro e w' ⟨rfl, rfl⟩) | (go_at_call 19; refine (awake_c _).mono ?_; rintro e w' ⟨rfl, rfl⟩))
      go_ret
      exact ⟨rfl, Grown.refl _⟩
end Go.Proofs.Ytjkabijejhmhkaa.W
