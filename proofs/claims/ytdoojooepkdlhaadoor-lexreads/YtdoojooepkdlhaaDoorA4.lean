/- Contracts of package numtext: decimal digits, whole numbers printed and read. -/
import Derived.Test.YtdoojooepkdlhaaDoorL4
namespace Go.Proofs.YtdoojooepkdlhaaDoor.W
open Go.ChangeShapes Go.WideShapes Go.RowKit

def allD (l : List UInt8) : Bool := !l.isEmpty && l.all digB
theorem isDecimal_c (c : UInt8) (w : World) :
    Calls Tryd.prog 63 #[.int .u8 c.toNat] w fun e w' => e = .returned (.bool (digB c)) ∧ w' = w := by
  go_enter Tryd.func63, Tryd.ntmps63
  go_wp2
  all_goals (go_ret; refine ⟨ret_bool ?_, rfl⟩; simp only [digB]; rw [Bool.eq_iff_iff]; simp only [decide_eq_true_eq, Bool.false_eq_true, false_iff]; omega)
theorem all_step (s : ByteArray) (k : Nat) (h : k < s.size) (hd : digB s[k] = true) (ha : (s.data.toList.take k).all digB = true) : (s.data.toList.take (k + 1)).all digB = true := by
  rw [take_snoc s k h, List.all_append, ha]
  simp [hd]
theorem all_not (s : ByteArray) (k : Nat) (h : k < s.size) (hd : digB s[k] = false) : allD s.data.toList = false := by
  have e : s.data.toList.all digB = false := by
    rw [List.all_eq_false]
    exact ⟨s[k], by rw [← List.take_append_drop (k + 1) s.data.toList, take_snoc s k h]; simp, by rw [hd]; decide⟩
  unfold allD
  rw [e, Bool.and_false]
theorem toList_eq (s : ByteArray) : s.toList = s.data.toList := ByteArray.toList_eq s
set_option maxHeartbeats 400000 in
theorem allDecimal_c (s : ByteArray) (hs : s.size ≤ maxLen) (w : World) :
    Calls Tryd.prog 54 #[.string s] w fun e w' => e = .returned (.bool (allD s.data.toList)) ∧ w' = w := by
  unfold maxLen at hs
  go_enter Tryd.func54, Tryd.ntmps54
  go_wp2_with fail
  go_loop [6] (fun i => ∃ k : Nat, k ≤ s.size ∧ i = .int .i64 k ∧ (s.data.toList.take k).all digB = true) (fun i => s.size - (intOf i).toNat)
  case atStart => exact ⟨0, Nat.zero_le _, rfl, rfl⟩
  case round =>
    obtain ⟨k, hk, rfl, ha⟩ := hrel
    by_cases hlt : k < s.size
    · cases hd : digB s[k] with
      | true =>
        have R := hid (all_step s k hlt hd ha)
        clear ha
        go_wp2_with (go_at_call 63; refine (isDecimal_c _ _).mono ?_; rintro e w' ⟨rfl, rfl⟩)
        go_round
        case rel => exact ⟨k + 1, hlt, by go_num, R.out⟩
        case measure => simp [intOf]; omega
      | false =>
        have R := hid (all_not s k hlt hd)
        clear ha
        go_wp2_with (go_at_call 63; refine (isDecimal_c _ _).mono ?_; rintro e w' ⟨rfl, rfl⟩)
        go_ret
        exact ⟨ret_bool R.out.symm, rfl⟩
    · rw [take_all s k hlt] at ha
      have R := hid (show allD s.data.toList = !s.toList.isEmpty by unfold allD; rw [ha, toList_eq, Bool.and_true])
      clear ha
      go_wp2_with fail
      go_ret
      exact ⟨ret_bool R.out.symm, rfl⟩

/-! ### a number's digits, counted -/
theorem valD_take (l : List UInt8) (k : Nat) : valD (l.take k) ≤ valD l := by
  have e : valD l = valD (l.take k) * 10 ^ (l.drop k).length + valD (l.drop k) := by
    have : valD l = valD (l.take k ++ l.drop k) := by rw [List.take_append_drop]
    rw [this]
    unfold valD
    rw [List.foldl_append, foldD]
    rfl
  have p : 1 ≤ 10 ^ (l.drop k).length := Nat.one_le_pow _ _ (by decide)
  have : valD (l.take k) * 1 ≤ valD (l.take k) * 10 ^ (l.drop k).length := Nat.mul_le_mul_left _ p
  omega
theorem valD_step (s : ByteArray) (k : Nat) (h : k < s.size) : valD (s.data.toList.take (k + 1)) = 10 * valD (s.data.toList.take k) + (s[k].toNat - 48) := by
  rw [take_snoc s k h, valD_snoc]
theorem dig_at (s : ByteArray) (h : s.data.toList.all digB = true) (k : Nat) (hk : k < s.size) : 48 ≤ s[k].toNat ∧ s[k].toNat ≤ 57 := by
  have := List.all_eq_true.1 h s[k] (by rw [← List.take_append_drop (k + 1) s.data.toList, take_snoc s k hk]; simp)
  exact of_decide_eq_true this
/-- what digits are read as, with a sign ahead or not -/
def limI (m : Bool) : Int := if m = true then 9223372036854775808 else 9223372036854775807
def valI (m : Bool) (d : List UInt8) : Int × Int := if (valD d : Int) ≤ limI m then ((if m = true then -(valD d : Int) else valD d), 0) else (0, 13)
theorem readD_val (m : Bool) (d : List UInt8) (h : formI m d = true) : readD m d = valI m d := by
  unfold readD valI limI
  rw [if_pos h]
  cases m
  · simp only [Bool.false_eq_true, if_false]
    by_cases g : valD d < 9223372036854775808
    · rw [if_pos g, if_pos (by omega)]
    · rw [if_neg g, if_neg (by omega)]
  · simp only [if_true]
    by_cases g : valD d ≤ 9223372036854775808
    · rw [if_pos g, if_pos (by omega)]
    · rw [if_neg g, if_neg (by omega)]
theorem sub48 (c : UInt8) (h : 48 ≤ c.toNat ∧ c.toNat ≤ 57) : IntKind.u64.wrap (IntKind.u8.wrap ((c.toNat : Int) - 48)) = (c.toNat : Int) - 48 := by
  rw [IntKind.wrap_u8, IntKind.wrap_u64]; omega
set_option maxHeartbeats 400000 in
theorem signedValue_c (s : ByteArray) (m : Bool) (hs : s.size ≤ maxLen) (hd : s.data.toList.all digB = true) (w : World) :
    Calls Tryd.prog 55 #[.string s, .bool m] w fun e w' => e = .returned (.tuple #[.int .i64 (valI m s.data.toList).1, .int .i64 (valI m s.data.toList).2]) ∧ w' = w := by
  unfold maxLen at hs
  have HD := hid hd
  clear hd
  cases m with
  | false =>
    go_enter Tryd.func55, Tryd.ntmps55
    go_wp2_with fail
    go_loop [7, 15] (fun v i => ∃ k : Nat, k ≤ s.size ∧ i = .int .i64 k ∧ v = .int .u64 (valD (s.data.toList.take k)) ∧ (valD (s.data.toList.take k) : Int) ≤ 9223372036854775807) (fun _ i => s.size - (intOf i).toNat)
    case atStart => exact ⟨0, Nat.zero_le _, rfl, rfl, by simp [valD]⟩
    case round =>
      obtain ⟨k, hk, rfl, rfl, hv⟩ := hrel
      by_cases hlt : k < s.size
      · obtain ⟨d0, d1⟩ := dig_at s HD.out k hlt
        have st := valD_step s k hlt
        have HT := hid (valD_take s.data.toList (k + 1))
        have e1 := sub48 s[k] ⟨d0, d1⟩
        by_cases hf : (valD (s.data.toList.take (k + 1)) : Int) ≤ 9223372036854775807
        · have HS := hid st
          have e3 : ¬ (9223372036854775807 - ((s[k].toNat : Int) - 48)).tdiv 10 < (valD (s.data.toList.take k) : Int) := by rw [Int.tdiv_eq_ediv_of_nonneg (by omega)]; omega
          have e3' : ¬ (9223372036854775807 - ((s[k].toNat : Int) - 48)) / 10 < (valD (s.data.toList.take k) : Int) := by omega
          have HF := hid hf
          clear st hf
          go_wp2_with fail
          go_round
          case rel => exact ⟨k + 1, hlt, by go_num, int_eq (by have := HS.out; have := HF.out; go_num), HF.out⟩
          case measure => simp [intOf]; omega
        · have e3 : (9223372036854775807 - ((s[k].toNat : Int) - 48)).tdiv 10 < (valD (s.data.toList.take k) : Int) := by rw [Int.tdiv_eq_ediv_of_nonneg (by omega)]; omega
          have e3' : (9223372036854775807 - ((s[k].toNat : Int) - 48)) / 10 < (valD (s.data.toList.take k) : Int) := by omega
          have HF := hid hf
          clear st hf
          go_wp2_with fail
          go_ret2
          have E : valI false s.data.toList = (0, 13) := by
            have := HT.out
            have := HF.out
            unfold valI limI
            rw [if_neg (by simp; omega)]
          exact ⟨ret_ii (by rw [E]) (by rw [E]), rfl⟩
      · rw [take_all s k hlt] at hv ⊢
        have HV := hid hv
        clear hv
        go_wp2_with fail
        go_ret2
        have E : valI false s.data.toList = ((valD s.data.toList : Int), 0) := by
          have := HV.out
          unfold valI limI
          rw [if_pos (by simp; omega)]
          rfl
        have := HV.out
        exact ⟨ret_ii (by rw [E]; simp only [wrap64]; omega) (by rw [E]), rfl⟩
  | true =>
    go_enter Tryd.func55, Tryd.ntmps55
    go_wp2_with fail
    go_loop [7, 15] (fun v i => ∃ k : Nat, k ≤ s.size ∧ i = .int .i64 k ∧ v = .int .u64 (valD (s.data.toList.take k)) ∧ (valD (s.data.toList.take k) : Int) ≤ 9223372036854775808) (fun _ i => s.size - (intOf i).toNat)
    case atStart => exact ⟨0, Nat.zero_le _, rfl, rfl, by simp [valD]⟩
    case round =>
      obtain ⟨k, hk, rfl, rfl, hv⟩ := hrel
      by_cases hlt : k < s.size
      · obtain ⟨d0, d1⟩ := dig_at s HD.out k hlt
        have st := valD_step s k hlt
        have HT := hid (valD_take s.data.toList (k + 1))
        have e1 := sub48 s[k] ⟨d0, d1⟩
        by_cases hf : (valD (s.data.toList.take (k + 1)) : Int) ≤ 9223372036854775808
        · have HS := hid st
          have e3 : ¬ (9223372036854775808 - ((s[k].toNat : Int) - 48)).tdiv 10 < (valD (s.data.toList.take k) : Int) := by rw [Int.tdiv_eq_ediv_of_nonneg (by omega)]; omega
          have e3' : ¬ (9223372036854775808 - ((s[k].toNat : Int) - 48)) / 10 < (valD (s.data.toList.take k) : Int) := by omega
          have HF := hid hf
          clear st hf
          go_wp2_with fail
          go_round
          case rel => exact ⟨k + 1, hlt, by go_num, int_eq (by have := HS.out; have := HF.out; go_num), HF.out⟩
          case measure => simp [intOf]; omega
        · have e3 : (9223372036854775808 - ((s[k].toNat : Int) - 48)).tdiv 10 < (valD (s.data.toList.take k) : Int) := by rw [Int.tdiv_eq_ediv_of_nonneg (by omega)]; omega
          have e3' : (9223372036854775808 - ((s[k].toNat : Int) - 48)) / 10 < (valD (s.data.toList.take k) : Int) := by omega
          have HF := hid hf
          clear st hf
          go_wp2_with fail
          go_ret2
          have E : valI true s.data.toList = (0, 13) := by
            have := HT.out
            have := HF.out
            unfold valI limI
            rw [if_neg (by simp; omega)]
          exact ⟨ret_ii (by rw [E]) (by rw [E]), rfl⟩
      · rw [take_all s k hlt] at hv ⊢
        have HV := hid hv
        clear hv
        go_wp2_with fail
        go_ret2
        have E : valI true s.data.toList = (-(valD s.data.toList : Int), 0) := by
          have := HV.out
          unfold valI limI
          rw [if_pos (by simp; omega)]
          rfl
        have := HV.out
        exact ⟨ret_ii (by rw [E]; simp only [wrap64, IntKind.wrap_u64]; omega) (by rw [E]), rfl⟩

/-! ### whole numbers -/
/-- the digits behind a sign -/
def rest1 (l : List UInt8) : List UInt8 := match l with | 45 :: d => d | d => d
def minus1 (l : List UInt8) : Bool := match l with | 45 :: _ => true | _ => false
theorem rest_not (l : List UInt8) (h : ∀ d, l = 45 :: d → False) : minus1 l = false ∧ rest1 l = l := by
  unfold minus1 rest1
  constructor
  · split
    · rename_i e; exact (h _ rfl).elim
    · rfl
  · split
    · rename_i e; exact (h _ rfl).elim
    · rfl
theorem readI_rest (l : List UInt8) (h : l.length ≤ 64) : readI l = readD (minus1 l) (rest1 l) := by
  unfold readI
  rw [if_neg (by omega)]
  split
  · rfl
  · rename_i hn
    obtain ⟨e1, e2⟩ := rest_not l hn
    rw [e1, e2]
theorem form_rest (l : List UInt8) : formI (minus1 l) (rest1 l) = (allD (rest1 l) && !((rest1 l).head? == some 48 && !(l == [48]))) := by
  unfold formI allD
  congr 2
  cases l with
  | nil => rfl
  | cons c r =>
    by_cases h : c = 45
    · subst h
      have e : ((45 :: r : List UInt8) == [48]) = false := by rw [beq_eq_false_iff_ne]; intro e; injection e with e1 e2; revert e1; decide
      show (r.head? == some 48 && (decide (1 < r.length) || true)) = _
      rw [e, Bool.or_true]
      rfl
    · have e1 : rest1 (c :: r) = c :: r := by
        unfold rest1
        split
        · rename_i e1; injection e1 with e2 e3; exact absurd e2 h
        · rfl
      have e2 : minus1 (c :: r) = false := by
        unfold minus1
        split
        · rename_i e1; injection e1 with e2 e3; exact absurd e2 h
        · rfl
      rw [e1, e2, Bool.or_false]
      cases hc : ((c :: r).head? == some 48) with
      | false => rfl
      | true =>
        simp only [List.head?_cons] at hc
        have : c = 48 := by simpa using hc
        subst this
        cases r with
        | nil => rfl
        | cons d r => simp
theorem rest_len (l : List UInt8) : (rest1 l).length ≤ l.length := by
  unfold rest1
  split <;> simp
theorem cutMinus_c (s : ByteArray) (w : World) :
    Calls Tryd.prog 53 #[.string s, .string ⟨#[45]⟩] w fun e w' => e = .returned (.tuple #[.string ⟨(rest1 s.data.toList).toArray⟩, .bool (minus1 s.data.toList)]) ∧ w' = w := by
  obtain ⟨p1, p2⟩ := prefix_minus s.data.toList
  have h := cutPrefix_c s ⟨#[45]⟩ w
  have e1 : Lib.hasPrefix s.data.toList (⟨#[45]⟩ : ByteArray).data.toList = minus1 s.data.toList := p1
  have e2 : Lib.trimPrefix s.data.toList (⟨#[45]⟩ : ByteArray).data.toList = rest1 s.data.toList := p2
  rw [e1, e2] at h
  exact h
theorem head_at (D : ByteArray) (h : 0 < D.size) : (D.data.toList.head? == some 48) = ((D[0].toNat : Int) == 48) := by
  obtain ⟨⟨l⟩⟩ := D
  cases l with
  | nil => exact absurd h (by decide)
  | cons c r =>
    show (some c == some 48) = ((c.toNat : Int) == 48)
    rw [Bool.eq_iff_iff, beq_iff_eq, beq_iff_eq]
    constructor
    · intro e; injection e with e; subst e; rfl
    · intro e
      congr 1
      apply UInt8.toNat_inj.1
      have : c.toNat = 48 := by omega
      rw [this]; rfl
set_option maxHeartbeats 400000 in
theorem parseInt_core (s D : ByteArray) (m : Bool) (x e : Int) (w : World) (h64 : s.size ≤ 64) (hD : D.size ≤ 64)
    (hcut : ∀ w, Calls Tryd.prog 53 #[.string s, .string ⟨#[45]⟩] w fun e w' => e = .returned (.tuple #[.string D, .bool m]) ∧ w' = w)
    (hR : (allD D.data.toList = false ∧ x = 0 ∧ e = 20) ∨ (allD D.data.toList = true ∧ 0 < D.size ∧ ((∃ h : 0 < D.size, ((D[0].toNat : Int) == 48) = true) ∧ (s.toList == [48]) = false ∧ x = 0 ∧ e = 20 ∨
      ((∃ h : 0 < D.size, ((D[0].toNat : Int) == 48) = false) ∨ (∃ h : 0 < D.size, ((D[0].toNat : Int) == 48) = true) ∧ (s.toList == [48]) = true) ∧ x = (valI m D.data.toList).1 ∧ e = (valI m D.data.toList).2))) :
    Calls Tryd.prog 42 #[.string s] w fun r w' => r = .returned (.tuple #[.int .i64 x, .int .i64 e]) ∧ w' = w := by
  have ml : D.size ≤ maxLen := by unfold maxLen; omega
  rcases hR with ⟨h1, rfl, rfl⟩ | ⟨h1, hp, ⟨⟨_, h2⟩, h3, rfl, rfl⟩ | ⟨⟨_, h2⟩ | ⟨⟨_, h2⟩, h3⟩, rfl, rfl⟩⟩
  · go_enter Tryd.func42, Tryd.ntmps42
    go_wp2_with (first | (go_at_call 53; refine (hcut _).mono ?_; rintro e w' ⟨rfl, rfl⟩) | (go_at_call 54; refine (allDecimal_c _ ml _).mono ?_; rintro e w' ⟨rfl, rfl⟩))
    go_ret2
    exact ⟨rfl, rfl⟩
  · go_enter Tryd.func42, Tryd.ntmps42
    go_wp2_with (first | (go_at_call 53; refine (hcut _).mono ?_; rintro e w' ⟨rfl, rfl⟩) | (go_at_call 54; refine (allDecimal_c _ ml _).mono ?_; rintro e w' ⟨rfl, rfl⟩))
    go_ret2
    exact ⟨rfl, rfl⟩
  · have hd : D.data.toList.all digB = true := by unfold allD at h1; rw [Bool.and_eq_true] at h1; exact h1.2
    have c := signedValue_c D m ml hd
    clear hd
    go_enter Tryd.func42, Tryd.ntmps42
    go_wp2_with (first | (go_at_call 53; refine (hcut _).mono ?_; rintro e w' ⟨rfl, rfl⟩) | (go_at_call 54; refine (allDecimal_c _ ml _).mono ?_; rintro e w' ⟨rfl, rfl⟩) | (go_at_call 55; refine (c _).mono ?_; rintro e w' ⟨rfl, rfl⟩))
    go_ret2
    exact ⟨rfl, rfl⟩
  · have hd : D.data.toList.all digB = true := by unfold allD at h1; rw [Bool.and_eq_true] at h1; exact h1.2
    have c := signedValue_c D m ml hd
    clear hd
    go_enter Tryd.func42, Tryd.ntmps42
    go_wp2_with (first | (go_at_call 53; refine (hcut _).mono ?_; rintro e w' ⟨rfl, rfl⟩) | (go_at_call 54; refine (allDecimal_c _ ml _).mono ?_; rintro e w' ⟨rfl, rfl⟩) | (go_at_call 55; refine (c _).mono ?_; rintro e w' ⟨rfl, rfl⟩))
    go_ret2
    exact ⟨rfl, rfl⟩
set_option maxHeartbeats 400000 in
theorem parseInt_c (s : ByteArray) (hs : s.size ≤ maxLen) (w : World) :
    Calls Tryd.prog 42 #[.string s] w fun e w' => e = .returned (.tuple #[.int .i64 (readI s.data.toList).1, .int .i64 (readI s.data.toList).2]) ∧ w' = w := by
  unfold maxLen at hs
  have sl := size_list s
  by_cases c : s.size ≤ 64
  · have er := readI_rest s.data.toList (by omega)
    have ef := form_rest s.data.toList
    have rl := rest_len s.data.toList
    have hc := cutMinus_c s
    obtain ⟨D, hD⟩ : ∃ D : ByteArray, D = ⟨(rest1 s.data.toList).toArray⟩ := ⟨_, rfl⟩
    have hDl : D.data.toList = rest1 s.data.toList := by rw [hD]
    have hDs := size_list D
    rw [← hD] at hc
    rw [← hDl] at ef er rl
    refine parseInt_core s D _ _ _ w c (by omega) hc ?_
    rw [er]
    cases ha : allD D.data.toList with
    | false =>
      rw [ha, Bool.false_and] at ef
      unfold readD
      rw [if_neg (by rw [ef]; decide)]
      exact Or.inl ⟨rfl, rfl, rfl⟩
    | true =>
      have hp : 0 < D.size := by
        unfold allD at ha
        rw [Bool.and_eq_true] at ha
        have : D.data.toList ≠ [] := by simpa using ha.1
        have := List.length_pos_iff.2 this
        omega
      rw [ha, Bool.true_and, head_at D hp] at ef
      have es : (s.toList == [48]) = (s.data.toList == [48]) := by rw [toList_eq]
      refine Or.inr ⟨rfl, hp, ?_⟩
      rw [es]
      cases hh : ((D[0].toNat : Int) == 48) with
      | false =>
        rw [hh] at ef
        rw [readD_val _ _ ef]
        exact Or.inr ⟨Or.inl ⟨hp, hh⟩, rfl, rfl⟩
      | true =>
        cases h0 : (s.data.toList == [48]) with
        | true =>
          rw [hh, h0] at ef
          rw [readD_val _ _ ef]
          exact Or.inr ⟨Or.inr ⟨⟨hp, hh⟩, rfl⟩, rfl, rfl⟩
        | false =>
          rw [hh, h0] at ef
          unfold readD
          rw [if_neg (by rw [ef]; decide)]
          exact Or.inl ⟨⟨hp, hh⟩, rfl, rfl, rfl⟩
  · have E : readI s.data.toList = (0, 2) := by unfold readI; rw [if_pos (by omega)]
    have H := hid E
    clear E
    go_enter Tryd.func42, Tryd.ntmps42
    go_wp2_with fail
    go_ret2
    exact ⟨ret_ii (by rw [H.out]) (by rw [H.out]), rfl⟩
end Go.Proofs.YtdoojooepkdlhaaDoor.W
