import Derived.Test.YtdoojooepkdlhaaDoorXA
import Derived.Test.YtdoojooepkdlhaaDoorA4
import Derived.Test.YtdoojooepkdlhaaDoorRR4pn
import Derived.Test.YtdoojooepkdlhaaDoorRR4mn
import Derived.Test.YtdoojooepkdlhaaDoorRR4pd
import Derived.Test.YtdoojooepkdlhaaDoorRR4md
import Derived.Lib.AppendZeros
import Derived.Sort.CutIn
/- casketref11: classes of bytes, words, marks, faults; Blank. -/
namespace Go.Proofs.YtdoojooepkdlhaaDoor.W
open Go.ChangeShapes Go.WideShapes Go.RowKit Go.Shelf
set_option linter.unusedVariables false
set_option linter.unusedSimpArgs false
/-- may a byte begin a name? -/
def startB (c : UInt8) : Bool := decide (97 ≤ c.toNat ∧ c.toNat ≤ 122) || decide (c.toNat = 95)
theorem rStarts_c (c : UInt8) (w : World) : Calls Tryd.prog 13 #[.int .u8 c.toNat] w fun e w' => e = .returned (.bool (startB c)) ∧ w' = w := by
  unfold startB
  go_enter Tryd.func13, Tryd.ntmps13
  go_wp2
  all_goals (go_ret; refine ⟨ret_bool ?_, rfl⟩; first | rfl | (rw [Bool.eq_iff_iff]; simp; done) | (rw [Bool.eq_iff_iff]; simp; omega))
theorem rDigit_c (c : UInt8) (w : World) : Calls Tryd.prog 15 #[.int .u8 c.toNat] w fun e w' => e = .returned (.bool (digB c)) ∧ w' = w := by
  go_enter Tryd.func15, Tryd.ntmps15
  go_wp2
  all_goals (go_ret; refine ⟨ret_bool ?_, rfl⟩; simp only [digB]; rw [Bool.eq_iff_iff]; simp only [decide_eq_true_eq, Bool.false_eq_true, false_iff]; omega)
theorem name_start (c : UInt8) : nameB c = (startB c || digB c) := by
  have e1 : nameB c = (decide (97 ≤ c.toNat ∧ c.toNat ≤ 122) || digB c || decide (c.toNat = 95)) := by
    unfold nameB
    rw [← u8_eq c 95 (by decide)]; rfl
  rw [e1]
  unfold startB
  cases digB c <;> simp
theorem rGoesOn_c (c : UInt8) (w : World) : Calls Tryd.prog 26 #[.int .u8 c.toNat] w fun e w' => e = .returned (.bool (nameB c)) ∧ w' = w := by
  have cs := rStarts_c c
  have cd := rDigit_c c
  rw [name_start]
  generalize startB c = a at *
  generalize digB c = b at *
  cases a <;> cases b
  all_goals (
    go_enter Tryd.func26, Tryd.ntmps26
    go_wp2_with (first | (go_at_call 13; (with_reducible refine (cs _).mono ?_); rintro e w' ⟨rfl, rfl⟩) | (go_at_call 15; (with_reducible refine (cd _).mono ?_); rintro e w' ⟨rfl, rfl⟩))
    go_ret
    exact ⟨rfl, rfl⟩)
theorem rHex_c (c : UInt8) (w : World) : Calls Tryd.prog 29 #[.int .u8 c.toNat] w fun e w' => e = .returned (.int .i64 (hexV c)) ∧ w' = w := by
  have cd := rDigit_c c
  have hlt := c.toNat_lt
  unfold hexV
  by_cases h1 : 48 ≤ c.toNat ∧ c.toNat ≤ 57
  · have hd : digB c = true := by unfold digB; exact decide_eq_true h1
    rw [hd] at cd
    rw [if_pos h1]
    have e1 : IntKind.u8.wrap ((c.toNat : Int) - 48) = (c.toNat : Int) - 48 := by rw [IntKind.wrap_u8]; omega
    have e2 : IntKind.i64.wrap ((c.toNat : Int) - 48) = (c.toNat : Int) - 48 := by rw [IntKind.wrap_i64]; omega
    clear h1 hd hlt
    go_enter Tryd.func29, Tryd.ntmps29
    go_wp2_with (go_at_call 15; (with_reducible refine (cd _).mono ?_); rintro e w' ⟨rfl, rfl⟩)
    go_ret
    exact ⟨rfl, rfl⟩
  · have hd : digB c = false := by unfold digB; exact decide_eq_false h1
    rw [hd] at cd
    rw [if_neg h1]
    by_cases h2 : 97 ≤ c.toNat ∧ c.toNat ≤ 102
    · rw [if_pos h2]
      have g1 : (c.toNat : Int) ≥ 97 := by omega
      have g2 : (c.toNat : Int) ≤ 102 := by omega
      have e1 : IntKind.u8.wrap ((c.toNat : Int) - 97) = (c.toNat : Int) - 97 := by rw [IntKind.wrap_u8]; omega
      have e2 : IntKind.i64.wrap ((c.toNat : Int) - 97) = (c.toNat : Int) - 97 := by rw [IntKind.wrap_i64]; omega
      have e3 : IntKind.i64.wrap ((c.toNat : Int) - 97 + 10) = (c.toNat : Int) - 87 := by rw [IntKind.wrap_i64]; omega
      clear h1 hd hlt h2
      go_enter Tryd.func29, Tryd.ntmps29
      go_wp2_with (go_at_call 15; (with_reducible refine (cd _).mono ?_); rintro e w' ⟨rfl, rfl⟩)
      go_ret
      exact ⟨rfl, rfl⟩
    · rw [if_neg h2]
      go_enter Tryd.func29, Tryd.ntmps29
      go_wp2_with (go_at_call 15; (with_reducible refine (cd _).mono ?_); rintro e w' ⟨rfl, rfl⟩)
      all_goals first | (go_ret; exact ⟨rfl, rfl⟩) | (exfalso; omega)
set_option maxRecDepth 100000 in
theorem rReserved_c (s : ByteArray) (w : World) : Calls Tryd.prog 28 #[.string s] w fun e w' => e = .returned (.bool (decide (s.data.toList ∈ words))) ∧ w' = w := by
  by_cases h : s.data.toList ∈ words
  · rw [decide_eq_true h]
    unfold words at h
    simp only [List.mem_cons, List.not_mem_nil, or_false] at h
    rcases h with h | h | h | h | h | h | h | h | h | h | h | h | h | h | h | h | h
    all_goals (
      have hs := bytes_of h
      subst hs
      go_enter Tryd.func28, Tryd.ntmps28
      go_wp2
      go_ret
      exact ⟨rfl, rfl⟩)
  · rw [decide_eq_false h]
    have ne : ∀ l ∈ words, (s.toList == l) = false := by
      intro l hl
      rw [beq_eq_false_iff_ne, toList_eq]
      rintro rfl
      exact h hl
    have n2 := ne [102, 110] (by decide)
    have n3 := ne [108, 101, 116] (by decide)
    have n4 := ne [105, 102] (by decide)
    have n5 := ne [101, 108, 115, 101] (by decide)
    have n6 := ne [119, 104, 105, 108, 101] (by decide)
    have n7 := ne [102, 111, 114] (by decide)
    have n8 := ne [105, 110] (by decide)
    have n9 := ne [98, 114, 101, 97, 107] (by decide)
    have n10 := ne [99, 111, 110, 116, 105, 110, 117, 101] (by decide)
    have n11 := ne [114, 101, 116, 117, 114, 110] (by decide)
    have n12 := ne [111, 117, 116] (by decide)
    have n13 := ne [97, 110, 100] (by decide)
    have n14 := ne [111, 114] (by decide)
    have n15 := ne [110, 111, 116] (by decide)
    have n16 := ne [116, 114, 117, 101] (by decide)
    have n17 := ne [102, 97, 108, 115, 101] (by decide)
    have n18 := ne [110, 105, 108] (by decide)
    clear ne h
    go_enter Tryd.func28, Tryd.ntmps28
    go_wp2
    go_ret
    exact ⟨rfl, rfl⟩
set_option maxRecDepth 100000 in
theorem rMark_c (s : ByteArray) (w : World) : Calls Tryd.prog 18 #[.string s] w fun e w' => e = .returned (.bool (decide (s.data.toList ∈ marks))) ∧ w' = w := by
  by_cases h : s.data.toList ∈ marks
  · rw [decide_eq_true h]
    unfold marks at h
    simp only [List.mem_cons, List.not_mem_nil, or_false] at h
    rcases h with h | h | h | h | h | h | h | h | h | h | h | h | h | h | h | h | h | h | h | h | h | h | h | h | h | h | h | h | h
    all_goals (
      have hs := bytes_of h
      subst hs
      go_enter Tryd.func18, Tryd.ntmps18
      go_wp2
      go_ret
      exact ⟨rfl, rfl⟩)
  · rw [decide_eq_false h]
    have ne : ∀ l ∈ marks, (s.toList == l) = false := by
      intro l hl
      rw [beq_eq_false_iff_ne, toList_eq]
      rintro rfl
      exact h hl
    have n0 := ne [61, 61] (by decide)
    have n1 := ne [33, 61] (by decide)
    have n2 := ne [60, 61] (by decide)
    have n3 := ne [62, 61] (by decide)
    have n4 := ne [60, 60] (by decide)
    have n5 := ne [62, 62] (by decide)
    have n6 := ne [47, 47] (by decide)
    have n7 := ne [46, 46] (by decide)
    have n8 := ne [43] (by decide)
    have n9 := ne [45] (by decide)
    have n10 := ne [42] (by decide)
    have n11 := ne [47] (by decide)
    have n12 := ne [37] (by decide)
    have n13 := ne [38] (by decide)
    have n14 := ne [124] (by decide)
    have n15 := ne [94] (by decide)
    have n16 := ne [126] (by decide)
    have n17 := ne [60] (by decide)
    have n18 := ne [62] (by decide)
    have n19 := ne [61] (by decide)
    have n20 := ne [40] (by decide)
    have n21 := ne [41] (by decide)
    have n22 := ne [123] (by decide)
    have n23 := ne [125] (by decide)
    have n24 := ne [91] (by decide)
    have n25 := ne [93] (by decide)
    have n26 := ne [44] (by decide)
    have n27 := ne [59] (by decide)
    have n28 := ne [58] (by decide)
    clear ne h
    go_enter Tryd.func18, Tryd.ntmps18
    go_wp2
    go_ret
    exact ⟨rfl, rfl⟩
end Go.Proofs.YtdoojooepkdlhaaDoor.W
/- casketref11: Blank. -/
namespace Go.Proofs.YtdoojooepkdlhaaDoor.W
open Go.ChangeShapes Go.WideShapes Go.RowKit Go.Shelf
set_option linter.unusedVariables false
set_option linter.unusedSimpArgs false
/-- no gap begins here -/
def NoGap (r : List UInt8) : Prop := ∀ c, r.head? = some c → c ≠ 35 ∧ blankB c = false
theorem rem_end (l : List UInt8) (k j : Nat) (c : UInt8) (hd : l.drop k = c :: l.drop (k + 1)) (hc : c = 35) (h : runN lineB (l.drop k) + k = j) : T (l.drop k) k = T (l.drop j) j := by
  subst hc
  rw [hd, runN_cons_t (by decide)] at h
  rw [hd, T_remark, List.drop_drop]
  have e : k + 1 + runN lineB (l.drop (k + 1)) = j := by omega
  have e2 : k + (runN lineB (l.drop (k + 1)) + 1) = j := by omega
  rw [e, e2]
set_option maxRecDepth 100000 in
set_option maxHeartbeats 1000000 in
/-- where no gap is any more: what is told from there on is the same -/
theorem rBlank_c (s : ByteArray) (hs : s.size ≤ 1000000) (a : Nat) (ha : a ≤ s.size) (w : World) : Calls Tryd.prog 9 #[.string s, .int .i64 a] w fun e w' => w' = w ∧ ∃ k : Nat, e = .returned (.int .i64 k) ∧ a ≤ k ∧ k ≤ s.size ∧ T (s.data.toList.drop a) a = T (s.data.toList.drop k) k ∧ NoGap (s.data.toList.drop k) := by
  have HS := hid hs
  clear hs
  go_enter Tryd.func9, Tryd.ntmps9
  go_wp2_with fail
  go_loop [1] (fun i => ∃ k : Nat, i = .int .i64 k ∧ a ≤ k ∧ k ≤ s.size ∧ T (s.data.toList.drop a) a = T (s.data.toList.drop k) k) (fun i => s.size - (intOf i).toNat)
  case atStart => exact ⟨a, rfl, Nat.le_refl _, ha, rfl⟩
  case round =>
    obtain ⟨k, rfl, h1, h2, h3⟩ := hrel
    by_cases c : k < s.size
    · have c1 : (k : Int) < (s.size : Int) := by omega
      have c0 : (0 : Int) ≤ (k : Int) := by omega
      have hd := drop_cons s k c
      have e1 : IntKind.i64.wrap ((k : Int) + 1) = ((k + 1 : Nat) : Int) := by have := HS.out; rw [IntKind.wrap_i64]; omega
      have e2 : wrap64 ((k : Int) + 1) = ((k + 1 : Nat) : Int) := by have := HS.out; unfold wrap64; omega
      have tb : blankB s[k] = true → T (s[k] :: s.data.toList.drop (k + 1)) k = T (s.data.toList.drop (k + 1)) (k + 1) := fun h' => T_blank s[k] (s.data.toList.drop (k + 1)) k h'
      have bl : blankB s[k] = (decide (s[k].toNat = 32) || decide (s[k].toNat = 9) || decide (s[k].toNat = 10)) := by
        unfold blankB
        rw [← u8_eq s[k] 32 (by decide), ← u8_eq s[k] 9 (by decide), ← u8_eq s[k] 10 (by decide)]; rfl
      by_cases b : blankB s[k] = true
      · have fin := hid (show T (s.data.toList.drop a) a = T (s.data.toList.drop (k + 1)) (k + 1) by rw [h3, hd, tb b])
        have b' : s[k].toNat = 32 ∨ s[k].toNat = 9 ∨ s[k].toNat = 10 := by rw [bl] at b; simpa [or_assoc] using b
        have HH := hid (And.intro h1 c)
        clear tb bl hd h3 h1 h2 b
        rcases b' with b | b | b
        all_goals (
          go_wp2
          go_round
          case rel => exact ⟨k + 1, by go_num, by have := HH.out.1; omega, HH.out.2, fin.out⟩
          case measure => have := HH.out.2; simp [intOf]; omega)
      · have b0 : blankB s[k] = false := by simpa using b
        have n1 : ¬ s[k].toNat = 32 := fun e => b (by rw [bl, e]; rfl)
        have n2 : ¬ s[k].toNat = 9 := fun e => b (by rw [bl, e]; rfl)
        have n3 : ¬ s[k].toNat = 10 := fun e => b (by rw [bl, e]; rfl)
        clear tb bl b
        by_cases q : s[k].toNat = 35
        · have q' : s[k] = 35 := u8_is q
          have HH := hid (And.intro h1 (And.intro c h3))
          have HD := hid hd
          have HQ := hid q'
          have HLB := hid (show lineB s[k] = true by rw [q']; decide)
          clear h1 h3 hd q' h2 b0
          go_wp2_with fail
          go_loop [1] (fun i => ∃ j : Nat, i = .int .i64 j ∧ k ≤ j ∧ j ≤ s.size ∧ runN lineB (s.data.toList.drop k) + k = runN lineB (s.data.toList.drop j) + j) (fun i => s.size - (intOf i).toNat)
          case atStart => exact ⟨k, rfl, Nat.le_refl _, Nat.le_of_lt HH.out.2.1, rfl⟩
          case round =>
            obtain ⟨j, rfl, g1, g2, g3⟩ := hrel
            by_cases cj : j < s.size
            · have j1 : (j : Int) < (s.size : Int) := by omega
              have j0 : (0 : Int) ≤ (j : Int) := by omega
              have hdj := drop_cons s j cj
              have w1 : IntKind.i64.wrap ((j : Int) + 1) = ((j + 1 : Nat) : Int) := by have := HS.out; rw [IntKind.wrap_i64]; omega
              have w2 : wrap64 ((j : Int) + 1) = ((j + 1 : Nat) : Int) := by have := HS.out; unfold wrap64; omega
              by_cases ln : s[j].toNat = 10
              · have l0 : lineB s[j] = false := by rw [u8_is ln]; decide
                have hj : runN lineB (s.data.toList.drop j) = 0 := by rw [hdj]; exact runN_cons_f l0
                have fin := hid (rem_end s.data.toList k j _ HD.out HQ.out (by omega))
                have jk : k + 1 ≤ j := by
                  by_cases e : j = k
                  · subst e; exact absurd ln n3
                  · omega
                have HJ := hid (And.intro jk g2)
                clear g1 g2 g3 hdj l0 hj jk
                go_wp2
                go_round
                case rel => exact ⟨j, rfl, by have := HH.out.1; have := HJ.out.1; omega, HJ.out.2, HH.out.2.2.trans fin.out⟩
                case measure => have := HJ.out; simp [intOf]; omega
              · have l1 : lineB s[j] = true := by unfold lineB; rw [bne_iff_ne]; rintro e; rw [e] at ln; exact ln rfl
                have fin := hid (show runN lineB (s.data.toList.drop k) + k = runN lineB (s.data.toList.drop (j + 1)) + (j + 1) by rw [g3, hdj, runN_cons_t l1]; omega)
                have HJ := hid (And.intro g1 cj)
                clear g1 g2 g3 hdj l1
                go_wp2
                go_round
                case rel => exact ⟨j + 1, by go_num, by have := HJ.out.1; omega, HJ.out.2, fin.out⟩
                case measure => have := HJ.out; simp [intOf]; omega
            · have j1 : ¬ (j : Int) < (s.size : Int) := by omega
              have hj : runN lineB (s.data.toList.drop j) = 0 := by rw [List.drop_eq_nil_of_le (by rw [size_list]; omega)]; rfl
              have fin := hid (rem_end s.data.toList k j _ HD.out HQ.out (by omega))
              have HJ := hid (And.intro g2 cj)
              have jk : k + 1 ≤ j := by have := HH.out.2.1; omega
              have HJK := hid jk
              clear g1 g2 g3 cj hj jk
              go_wp2
              go_round
              case rel => exact ⟨j, rfl, by have := HH.out.1; have := HJK.out; omega, HJ.out.1, HH.out.2.2.trans fin.out⟩
              case measure => have := HJ.out; have := HJK.out; have := HH.out.2.1; simp [intOf]; omega
        · have fin := hid (show NoGap (s.data.toList.drop k) by
            intro d hdd
            rw [hd] at hdd
            injection hdd with hdd
            subst hdd
            exact ⟨fun e => q (by rw [e]; rfl), b0⟩)
          have HH := hid (And.intro h1 (And.intro h2 h3))
          have m1 : ((s[k].toNat : Int) == 32) = false := by simp; omega
          have m2 : ((s[k].toNat : Int) == 9) = false := by simp; omega
          have m3 : ((s[k].toNat : Int) == 10) = false := by simp; omega
          have m4 : ((s[k].toNat : Int) == 35) = false := by simp; omega
          clear h1 h2 h3 hd b0 n1 n2 n3 q
          go_wp2
          go_ret
          exact ⟨rfl, k, rfl, HH.out.1, HH.out.2.1, HH.out.2.2, fin.out⟩
    · have c1 : ¬ (k : Int) < (s.size : Int) := by omega
      have fin := hid (show NoGap (s.data.toList.drop k) by
        intro d hdd
        rw [List.drop_eq_nil_of_le (by rw [size_list]; omega)] at hdd
        cases hdd)
      have HH := hid (And.intro h1 (And.intro h2 h3))
      clear h1 h2 h3 c
      go_wp2
      go_ret
      exact ⟨rfl, k, rfl, HH.out.1, HH.out.2.1, HH.out.2.2, fin.out⟩
end Go.Proofs.YtdoojooepkdlhaaDoor.W
/- Contract of the reference: a whole number read. -/
namespace Go.Proofs.YtdoojooepkdlhaaDoor.W
open Go.ChangeShapes Go.WideShapes Go.RowKit

/-- what is known behind k digits -/
def Cnt (D : ByteArray) (k : Nat) (n : Int) (ov : Bool) : Prop :=
  k ≤ D.size ∧ (D.data.toList.take k).all digB = true ∧ 0 ≤ n ∧ n ≤ 9223372036854775808 ∧ (ov = false → n = (valD (D.data.toList.take k) : Int)) ∧ (ov = true → 9223372036854775808 < (valD (D.data.toList.take k) : Int))
theorem Cnt.start (D : ByteArray) : Cnt D 0 0 false := ⟨Nat.zero_le _, rfl, by omega, by omega, fun _ => rfl, by intro h; cases h⟩
theorem Cnt.over {D : ByteArray} {k : Nat} {n : Int} {ov : Bool} (h : Cnt D k n ov) (hk : k < D.size) (hd : digB D[k] = true) (ho : ov = true ∨ (9223372036854775808 - ((D[k].toNat : Int) - 48)) / 10 < n) : Cnt D (k + 1) n true := by
  obtain ⟨h1, h2, h3, h4, h5, h6⟩ := h
  have d := of_decide_eq_true hd
  have st := valD_step D k hk
  refine ⟨hk, all_step D k hk hd h2, h3, h4, (by intro h; cases h), fun _ => ?_⟩
  cases ov with
  | true => have := h6 rfl; omega
  | false =>
    rcases ho with ho | ho
    · cases ho
    · have := h5 rfl; omega
theorem Cnt.next {D : ByteArray} {k : Nat} {n : Int} (h : Cnt D k n false) (hk : k < D.size) (hd : digB D[k] = true) (ho : ¬ (9223372036854775808 - ((D[k].toNat : Int) - 48)) / 10 < n) : Cnt D (k + 1) (10 * n + ((D[k].toNat : Int) - 48)) false := by
  obtain ⟨h1, h2, h3, h4, h5, h6⟩ := h
  have d := of_decide_eq_true hd
  have st := valD_step D k hk
  have := h5 rfl
  exact ⟨hk, all_step D k hk hd h2, by omega, by omega, fun _ => by omega, by intro h; cases h⟩
def ansI (m : Bool) (n : Int) (ov : Bool) : Int × Int := if ov = true ∨ m = false ∧ n = 9223372036854775808 then (0, 13) else (if m = true then -n else n, 0)
theorem ansI_over (m : Bool) (n : Int) : ansI m n true = (0, 13) := by unfold ansI; rw [if_pos (Or.inl rfl)]
theorem ansI_neg (n : Int) : ansI true n false = (-n, 0) := by unfold ansI; simp
theorem ansI_top : ansI false 9223372036854775808 false = (0, 13) := by unfold ansI; simp
theorem ansI_pos (n : Int) (h : n ≠ 9223372036854775808) : ansI false n false = (n, 0) := by unfold ansI; simp [h]
theorem valI_out (m : Bool) (d : List UInt8) (h : limI m < (valD d : Int)) : valI m d = (0, 13) := by unfold valI; rw [if_neg (by omega)]
theorem valI_neg (d : List UInt8) (h : (valD d : Int) ≤ 9223372036854775808) : valI true d = (-(valD d : Int), 0) := by unfold valI limI; simp [h]
theorem valI_pos (d : List UInt8) (h : (valD d : Int) ≤ 9223372036854775807) : valI false d = ((valD d : Int), 0) := by unfold valI limI; simp [h]
/-- the answer behind all digits -/
theorem Cnt.done {D : ByteArray} {k : Nat} {n : Int} {ov : Bool} (h : Cnt D k n ov) (hk : ¬ k < D.size) (m : Bool) (hf : D.data.toList ≠ []) (hz : (D.data.toList.head? == some 48 && (decide (1 < D.data.toList.length) || m)) = false) :
    readD m D.data.toList = ansI m n ov := by
  obtain ⟨h1, h2, h3, h4, h5, h6⟩ := h
  rw [take_all D k hk] at h2 h5 h6
  have fm : formI m D.data.toList = true := by
    unfold formI
    rw [h2, hz]
    have : D.data.toList.isEmpty = false := by simpa using hf
    rw [this]; rfl
  rw [readD_val m _ fm]
  cases ov with
  | true =>
    have := h6 rfl
    rw [ansI_over, valI_out _ _ (by unfold limI; split <;> omega)]
  | false =>
    have := h5 rfl
    cases m with
    | true => rw [ansI_neg, valI_neg _ (by omega), this]
    | false =>
      by_cases q : n = 9223372036854775808
      · rw [q, ansI_top, valI_out _ _ (by unfold limI; simp; omega)]
      · rw [ansI_pos n q, valI_pos _ (by omega), this]
theorem form_no (m : Bool) (D : ByteArray) (h : D.data.toList = [] ∨ (D.data.toList.head? == some 48 && (decide (1 < D.data.toList.length) || m)) = true ∨ D.data.toList.all digB = false) : readD m D.data.toList = (0, 20) := by
  unfold readD
  rw [if_neg]
  unfold formI
  rcases h with h | h | h
  · rw [h]; simp
  · rw [h]; simp
  · rw [h]; simp
theorem cut_from0 (s : ByteArray) (k : Nat) : s.extract k s.size = ⟨(s.data.toList.drop k).toArray⟩ := by
  obtain ⟨⟨l⟩⟩ := s
  rw [ByteArray.extract_mk]
  have e : (⟨⟨l⟩⟩ : ByteArray).size = l.length := rfl
  rw [e]
  simp
  rw [List.take_of_length_le (by rw [List.length_drop]; omega)]
theorem lt48 (c : UInt8) : digB c = (!(decide ((c.toNat : Int) < 48) || decide (57 < (c.toNat : Int)))) := by
  unfold digB
  rw [Bool.eq_iff_iff]
  simp only [decide_eq_true_eq, Bool.not_eq_true', Bool.or_eq_false_iff, decide_eq_false_iff_not]
  omega
set_option maxHeartbeats 1000000 in
theorem refParseInt_minus (s D : ByteArray) (w : World) (s0 : 0 < s.size) (s64 : s.size ≤ 64) (he : s.toList.isEmpty = false) (hc : ((s[0].toNat : Int) == 45) = true) (hD : s.extract 1 s.size = D) (d0 : 0 < D.size) (d64 : D.size ≤ 64) (hde : D.toList.isEmpty = false)
    (hw : ((D[0].toNat : Int) == 48) = false) (hz : (D.data.toList.head? == some 48 && (decide (1 < D.data.toList.length) || true)) = false) :
    Calls Tryd.prog 30 #[.string s] w fun e w' => e = .returned (.tuple #[.int .i64 (readD true D.data.toList).1, .int .i64 (readD true D.data.toList).2]) ∧ w' = w := by
  have HZ := hid hz
  have hne : D.data.toList ≠ [] := by
    intro e
    have := size_list D
    rw [e] at this
    simp at this
    omega
  have HNE := hid hne
  clear hz hne
  go_enter Tryd.func30, Tryd.ntmps30
  go_wp2_with fail
  go_loop [6, 7, 8] (fun nv ov i => ∃ (k : Nat) (n : Int) (b : Bool), i = .int .i64 k ∧ nv = .int .u64 n ∧ ov = .bool b ∧ Cnt D k n b) (fun _ _ i => D.size - (intOf i).toNat)
  case atStart => exact ⟨0, 0, false, rfl, rfl, rfl, Cnt.start D⟩
  case round =>
    obtain ⟨k, n, b, rfl, rfl, rfl, hcn⟩ := hrel
    have HC := hid hcn
    obtain ⟨k1, -, n0, n1, -, -⟩ := hcn
    by_cases hlt : k < D.size
    · cases hd : digB D[k] with
      | false =>
        have R := hid (form_no true D (Or.inr (Or.inr (by
          rw [List.all_eq_false]
          exact ⟨D[k], by rw [← List.take_append_drop (k + 1) D.data.toList, take_snoc D k hlt]; simp, by rw [hd]; decide⟩))))
        rw [lt48] at hd
        have hd2 : decide ((D[k].toNat : Int) < 48) = true ∨ decide ((D[k].toNat : Int) < 48) = false ∧ decide (57 < (D[k].toNat : Int)) = true := by
          cases h1 : decide ((D[k].toNat : Int) < 48) with
          | true => exact Or.inl rfl
          | false => exact Or.inr ⟨rfl, by rw [h1] at hd; simpa using hd⟩
        clear hd
        rcases hd2 with g1 | ⟨g1, g2⟩
        · go_wp2_with fail
          go_ret2
          exact ⟨ret_ii (by rw [R.out]) (by rw [R.out]), rfl⟩
        · go_wp2_with fail
          go_ret2
          exact ⟨ret_ii (by rw [R.out]) (by rw [R.out]), rfl⟩
      | true =>
        have HD := hid hd
        have dd := of_decide_eq_true hd
        have g1 : decide ((D[k].toNat : Int) < 48) = false := decide_eq_false (by omega)
        have g2 : decide (57 < (D[k].toNat : Int)) = false := decide_eq_false (by omega)
        have e1 := sub48 D[k] dd
        have d0' := dd.1
        have d1' := dd.2
        clear hd dd
        cases b with
        | true =>
          have R := hid (HC.out.over hlt HD.out (Or.inl rfl))
          go_wp2_with fail
          go_round
          case rel => exact ⟨k + 1, n, true, by go_num, rfl, rfl, R.out⟩
          case measure => simp [intOf]; omega
        | false =>
          by_cases ho : (9223372036854775808 - ((D[k].toNat : Int) - 48)) / 10 < n
          · have R := hid (HC.out.over hlt HD.out (Or.inr ho))
            go_wp2_with fail
            go_round
            case rel => exact ⟨k + 1, n, true, by go_num, rfl, rfl, R.out⟩
            case measure => simp [intOf]; omega
          · have R := hid (HC.out.next hlt HD.out ho)
            go_wp2_with fail
            go_round
            case rel => exact ⟨k + 1, _, false, by go_num, by go_num, rfl, R.out⟩
            case measure => simp [intOf]; omega
    · have R := hid (show readD true D.data.toList = ansI true n b from HC.out.done hlt true HNE.out HZ.out)
      cases b with
      | true =>
        have E := hid (show readD true D.data.toList = (0, 13) by rw [R.out, ansI_over])
        go_wp2_with fail
        go_ret2
        exact ⟨ret_ii (by rw [E.out]) (by rw [E.out]), rfl⟩
      | false =>
        have E := hid (show readD true D.data.toList = (-n, 0) by rw [R.out, ansI_neg])
        have n2 : 0 < n := by
          have h5 := HC.out.2.2.2.2.1 rfl
          rw [take_all D k hlt] at h5
          have hg := (form_good (m := true) (d := D.data.toList) (by
            unfold formI
            have h2 := HC.out.2.1
            rw [take_all D k hlt] at h2
            rw [h2, HZ.out]
            have : D.data.toList.isEmpty = false := by simpa using HNE.out
            rw [this]; rfl)).2 rfl
          omega
        have w1 : wrap64 (n - 1) = n - 1 := by unfold wrap64; omega
        have w2 : wrap64 (-(n - 1)) = -(n - 1) := by unfold wrap64; omega
        have w3 : wrap64 (-(n - 1) - 1) = -n := by unfold wrap64; omega
        go_wp2_with fail
        go_ret2
        exact ⟨ret_ii (by rw [E.out]; first | rfl | omega) (by rw [E.out]), rfl⟩
set_option maxHeartbeats 1000000 in
theorem refParseInt_plus (s D : ByteArray) (w : World) (s0 : 0 < s.size) (s64 : s.size ≤ 64) (he : s.toList.isEmpty = false) (hc : ((s[0].toNat : Int) == 45) = false) (hD : s = D) (d0 : 0 < D.size) (d64 : D.size ≤ 64) (hde : D.toList.isEmpty = false)
    (hw : ((D[0].toNat : Int) == 48) = false ∨ ((D[0].toNat : Int) == 48) = true ∧ ¬ 1 < (D.size : Int)) (hz : (D.data.toList.head? == some 48 && (decide (1 < D.data.toList.length) || false)) = false) :
    Calls Tryd.prog 30 #[.string s] w fun e w' => e = .returned (.tuple #[.int .i64 (readD false D.data.toList).1, .int .i64 (readD false D.data.toList).2]) ∧ w' = w := by
  subst hD
  have HZ := hid hz
  have hne : s.data.toList ≠ [] := by
    intro e
    have := size_list s
    rw [e] at this
    simp at this
    omega
  have HNE := hid hne
  clear hz hne
  rcases hw with hw | ⟨hw, hw2⟩
  · go_enter Tryd.func30, Tryd.ntmps30
    go_wp2_with fail
    go_loop [6, 7, 8] (fun nv ov i => ∃ (k : Nat) (n : Int) (b : Bool), i = .int .i64 k ∧ nv = .int .u64 n ∧ ov = .bool b ∧ Cnt s k n b) (fun _ _ i => s.size - (intOf i).toNat)
    case atStart => exact ⟨0, 0, false, rfl, rfl, rfl, Cnt.start s⟩
    case round =>
      obtain ⟨k, n, b, rfl, rfl, rfl, hcn⟩ := hrel
      have HC := hid hcn
      obtain ⟨k1, -, n0, n1, -, -⟩ := hcn
      by_cases hlt : k < s.size
      · cases hd : digB s[k] with
        | false =>
          have R := hid (form_no false s (Or.inr (Or.inr (by
            rw [List.all_eq_false]
            exact ⟨s[k], by rw [← List.take_append_drop (k + 1) s.data.toList, take_snoc s k hlt]; simp, by rw [hd]; decide⟩))))
          rw [lt48] at hd
          have hd2 : decide ((s[k].toNat : Int) < 48) = true ∨ decide ((s[k].toNat : Int) < 48) = false ∧ decide (57 < (s[k].toNat : Int)) = true := by
            cases h1 : decide ((s[k].toNat : Int) < 48) with
            | true => exact Or.inl rfl
            | false => exact Or.inr ⟨rfl, by rw [h1] at hd; simpa using hd⟩
          clear hd
          rcases hd2 with g1 | ⟨g1, g2⟩
          · go_wp2_with fail
            go_ret2
            exact ⟨ret_ii (by rw [R.out]) (by rw [R.out]), rfl⟩
          · go_wp2_with fail
            go_ret2
            exact ⟨ret_ii (by rw [R.out]) (by rw [R.out]), rfl⟩
        | true =>
          have HD := hid hd
          have dd := of_decide_eq_true hd
          have g1 : decide ((s[k].toNat : Int) < 48) = false := decide_eq_false (by omega)
          have g2 : decide (57 < (s[k].toNat : Int)) = false := decide_eq_false (by omega)
          have e1 := sub48 s[k] dd
          have d0' := dd.1
          have d1' := dd.2
          clear hd dd
          cases b with
          | true =>
            have R := hid (HC.out.over hlt HD.out (Or.inl rfl))
            go_wp2_with fail
            go_round
            case rel => exact ⟨k + 1, n, true, by go_num, rfl, rfl, R.out⟩
            case measure => simp [intOf]; omega
          | false =>
            by_cases ho : (9223372036854775808 - ((s[k].toNat : Int) - 48)) / 10 < n
            · have R := hid (HC.out.over hlt HD.out (Or.inr ho))
              go_wp2_with fail
              go_round
              case rel => exact ⟨k + 1, n, true, by go_num, rfl, rfl, R.out⟩
              case measure => simp [intOf]; omega
            · have R := hid (HC.out.next hlt HD.out ho)
              go_wp2_with fail
              go_round
              case rel => exact ⟨k + 1, _, false, by go_num, by go_num, rfl, R.out⟩
              case measure => simp [intOf]; omega
      · have R := hid (show readD false s.data.toList = ansI false n b from HC.out.done hlt false HNE.out HZ.out)
        cases b with
        | true =>
          have E := hid (show readD false s.data.toList = (0, 13) by rw [R.out, ansI_over])
          go_wp2_with fail
          go_ret2
          exact ⟨ret_ii (by rw [E.out]) (by rw [E.out]), rfl⟩
        | false =>
          by_cases q : n = 9223372036854775808
          · have E := hid (show readD false s.data.toList = (0, 13) by rw [R.out, q, ansI_top])
            have q' : (n == 9223372036854775808) = true := by rw [q]; rfl
            go_wp2_with fail
            go_ret2
            exact ⟨ret_ii (by rw [E.out]) (by rw [E.out]), rfl⟩
          · have E := hid (show readD false s.data.toList = (n, 0) by rw [R.out, ansI_pos n q])
            have q' : (n == 9223372036854775808) = false := by rw [beq_eq_false_iff_ne]; exact q
            have n9 : n < 9223372036854775808 := by omega
            go_wp2_with fail
            go_ret2
            exact ⟨ret_ii (by rw [E.out]) (by rw [E.out]), rfl⟩
  · go_enter Tryd.func30, Tryd.ntmps30
    go_wp2_with fail
    go_loop [6, 7, 8] (fun nv ov i => ∃ (k : Nat) (n : Int) (b : Bool), i = .int .i64 k ∧ nv = .int .u64 n ∧ ov = .bool b ∧ Cnt s k n b) (fun _ _ i => s.size - (intOf i).toNat)
    case atStart => exact ⟨0, 0, false, rfl, rfl, rfl, Cnt.start s⟩
    case round =>
      obtain ⟨k, n, b, rfl, rfl, rfl, hcn⟩ := hrel
      have HC := hid hcn
      obtain ⟨k1, -, n0, n1, -, -⟩ := hcn
      by_cases hlt : k < s.size
      · cases hd : digB s[k] with
        | false =>
          have R := hid (form_no false s (Or.inr (Or.inr (by
            rw [List.all_eq_false]
            exact ⟨s[k], by rw [← List.take_append_drop (k + 1) s.data.toList, take_snoc s k hlt]; simp, by rw [hd]; decide⟩))))
          rw [lt48] at hd
          have hd2 : decide ((s[k].toNat : Int) < 48) = true ∨ decide ((s[k].toNat : Int) < 48) = false ∧ decide (57 < (s[k].toNat : Int)) = true := by
            cases h1 : decide ((s[k].toNat : Int) < 48) with
            | true => exact Or.inl rfl
            | false => exact Or.inr ⟨rfl, by rw [h1] at hd; simpa using hd⟩
          clear hd
          rcases hd2 with g1 | ⟨g1, g2⟩
          · go_wp2_with fail
            go_ret2
            exact ⟨ret_ii (by rw [R.out]) (by rw [R.out]), rfl⟩
          · go_wp2_with fail
            go_ret2
            exact ⟨ret_ii (by rw [R.out]) (by rw [R.out]), rfl⟩
        | true =>
          have HD := hid hd
          have dd := of_decide_eq_true hd
          have g1 : decide ((s[k].toNat : Int) < 48) = false := decide_eq_false (by omega)
          have g2 : decide (57 < (s[k].toNat : Int)) = false := decide_eq_false (by omega)
          have e1 := sub48 s[k] dd
          have d0' := dd.1
          have d1' := dd.2
          clear hd dd
          cases b with
          | true =>
            have R := hid (HC.out.over hlt HD.out (Or.inl rfl))
            go_wp2_with fail
            go_round
            case rel => exact ⟨k + 1, n, true, by go_num, rfl, rfl, R.out⟩
            case measure => simp [intOf]; omega
          | false =>
            by_cases ho : (9223372036854775808 - ((s[k].toNat : Int) - 48)) / 10 < n
            · have R := hid (HC.out.over hlt HD.out (Or.inr ho))
              go_wp2_with fail
              go_round
              case rel => exact ⟨k + 1, n, true, by go_num, rfl, rfl, R.out⟩
              case measure => simp [intOf]; omega
            · have R := hid (HC.out.next hlt HD.out ho)
              go_wp2_with fail
              go_round
              case rel => exact ⟨k + 1, _, false, by go_num, by go_num, rfl, R.out⟩
              case measure => simp [intOf]; omega
      · have R := hid (show readD false s.data.toList = ansI false n b from HC.out.done hlt false HNE.out HZ.out)
        cases b with
        | true =>
          have E := hid (show readD false s.data.toList = (0, 13) by rw [R.out, ansI_over])
          go_wp2_with fail
          go_ret2
          exact ⟨ret_ii (by rw [E.out]) (by rw [E.out]), rfl⟩
        | false =>
          by_cases q : n = 9223372036854775808
          · have E := hid (show readD false s.data.toList = (0, 13) by rw [R.out, q, ansI_top])
            have q' : (n == 9223372036854775808) = true := by rw [q]; rfl
            go_wp2_with fail
            go_ret2
            exact ⟨ret_ii (by rw [E.out]) (by rw [E.out]), rfl⟩
          · have E := hid (show readD false s.data.toList = (n, 0) by rw [R.out, ansI_pos n q])
            have q' : (n == 9223372036854775808) = false := by rw [beq_eq_false_iff_ne]; exact q
            have n9 : n < 9223372036854775808 := by omega
            go_wp2_with fail
            go_ret2
            exact ⟨ret_ii (by rw [E.out]) (by rw [E.out]), rfl⟩
theorem refParseInt_none (s : ByteArray) (w : World) (he : s.toList.isEmpty = true) (s0 : s.size = 0) :
    Calls Tryd.prog 30 #[.string s] w fun e w' => e = .returned (.tuple #[.int .i64 0, .int .i64 20]) ∧ w' = w := by
  go_enter Tryd.func30, Tryd.ntmps30
  go_wp2_with fail
  go_ret2
  exact ⟨rfl, rfl⟩
theorem refParseInt_m0 (s D : ByteArray) (w : World) (s0 : 0 < s.size) (s64 : s.size ≤ 64) (he : s.toList.isEmpty = false) (hc : ((s[0].toNat : Int) == 45) = true) (hD : s.extract 1 s.size = D) (hde : D.toList.isEmpty = true) :
    Calls Tryd.prog 30 #[.string s] w fun e w' => e = .returned (.tuple #[.int .i64 0, .int .i64 20]) ∧ w' = w := by
  go_enter Tryd.func30, Tryd.ntmps30
  go_wp2_with fail
  go_ret2
  exact ⟨rfl, rfl⟩
theorem refParseInt_m48 (s D : ByteArray) (w : World) (s0 : 0 < s.size) (s64 : s.size ≤ 64) (he : s.toList.isEmpty = false) (hc : ((s[0].toNat : Int) == 45) = true) (hD : s.extract 1 s.size = D) (hde : D.toList.isEmpty = false) (d0 : 0 < D.size) (hw : ((D[0].toNat : Int) == 48) = true) :
    Calls Tryd.prog 30 #[.string s] w fun e w' => e = .returned (.tuple #[.int .i64 0, .int .i64 20]) ∧ w' = w := by
  by_cases h1 : 1 < (D.size : Int)
  · go_enter Tryd.func30, Tryd.ntmps30
    go_wp2_with fail
    go_ret2
    exact ⟨rfl, rfl⟩
  · go_enter Tryd.func30, Tryd.ntmps30
    go_wp2_with fail
    go_ret2
    exact ⟨rfl, rfl⟩
theorem refParseInt_p48 (s : ByteArray) (w : World) (s0 : 0 < s.size) (s64 : s.size ≤ 64) (he : s.toList.isEmpty = false) (hc : ((s[0].toNat : Int) == 45) = false) (hw : ((s[0].toNat : Int) == 48) = true) (h1 : 1 < (s.size : Int)) :
    Calls Tryd.prog 30 #[.string s] w fun e w' => e = .returned (.tuple #[.int .i64 0, .int .i64 20]) ∧ w' = w := by
  go_enter Tryd.func30, Tryd.ntmps30
  go_wp2_with fail
  go_ret2
  exact ⟨rfl, rfl⟩
theorem chr_is (c d : UInt8) : ((c.toNat : Int) == (d.toNat : Int)) = decide (c = d) := by
  rw [Bool.eq_iff_iff, beq_iff_eq, decide_eq_true_eq]
  constructor
  · intro e
    exact UInt8.toNat_inj.1 (by omega)
  · intro e; subst e; rfl
theorem cons_at (s : ByteArray) (c : UInt8) (r : List UInt8) (h : s.data.toList = c :: r) : ∃ h0 : 0 < s.size, s[0] = c := by
  obtain ⟨⟨l⟩⟩ := s
  have hl : l = c :: r := h
  subst hl
  exact ⟨Nat.succ_pos r.length, rfl⟩
theorem refParseInt_c (s : ByteArray) (hs : s.size ≤ maxLen) (w : World) :
    Calls Tryd.prog 30 #[.string s] w fun e w' => e = .returned (.tuple #[.int .i64 (readI s.data.toList).1, .int .i64 (readI s.data.toList).2]) ∧ w' = w := by
  have sz := size_list s
  have tl := toList_eq s
  unfold maxLen at hs
  by_cases c64 : s.size ≤ 64
  · rw [readI_rest _ (by omega)]
    cases hl : s.data.toList with
    | nil =>
      have e : readD (minus1 []) (rest1 []) = (0, 20) := rfl
      rw [e]
      rw [hl] at sz tl
      exact refParseInt_none s w (by rw [tl]; rfl) sz.symm
    | cons c r =>
      obtain ⟨s0, h0⟩ := cons_at s c r hl
      rw [hl] at sz tl
      simp only [List.length_cons] at sz
      have he : s.toList.isEmpty = false := by rw [tl]; rfl
      by_cases hc : c = 45
      · subst hc
        have hc' : ((s[0].toNat : Int) == 45) = true := by rw [h0]; rfl
        have hx : s.extract 1 s.size = ⟨r.toArray⟩ := by
          have := cut_from0 s 1
          rw [hl] at this
          exact this
        show Calls _ _ _ _ fun e w' => e = .returned (.tuple #[.int .i64 (readD true r).1, .int .i64 (readD true r).2]) ∧ w' = w
        have hr : (⟨r.toArray⟩ : ByteArray).data.toList = r := rfl
        have hrt := toList_eq ⟨r.toArray⟩
        rw [hr] at hrt
        have hrs := size_list ⟨r.toArray⟩
        rw [hr] at hrs
        cases r with
        | nil =>
          have e : readD true [] = (0, 20) := rfl
          rw [e]
          exact refParseInt_m0 s _ w s0 c64 he hc' hx (by rw [hrt]; rfl)
        | cons d r =>
          obtain ⟨d0, hd⟩ := cons_at ⟨(d :: r).toArray⟩ d r rfl
          by_cases hz : d = 48
          · subst hz
            have e := form_no true ⟨(48 :: r).toArray⟩ (Or.inr (Or.inl (by rw [hr]; simp)))
            rw [hr] at e
            rw [e]
            exact refParseInt_m48 s _ w s0 c64 he hc' hx (by rw [hrt]; rfl) d0 (by rw [hd]; rfl)
          · have := refParseInt_minus s ⟨(d :: r).toArray⟩ w s0 c64 he hc' hx d0 (by rw [← hrs]; omega) (by rw [hrt]; rfl) (by rw [hd, show (48 : Int) = ((48 : UInt8).toNat : Int) from rfl, chr_is]; exact decide_eq_false hz) (by rw [hr]; simp [hz])
            rw [hr] at this
            exact this
      · obtain ⟨e1, e2⟩ := rest_not (c :: r) (fun d e => hc (by injection e))
        rw [e1, e2]
        have hc' : ((s[0].toNat : Int) == 45) = false := by rw [h0, show (45 : Int) = ((45 : UInt8).toNat : Int) from rfl, chr_is]; exact decide_eq_false hc
        by_cases hz : c = 48
        · subst hz
          have hw : ((s[0].toNat : Int) == 48) = true := by rw [h0]; rfl
          by_cases h1 : 1 < (s.size : Int)
          · have e := form_no false s (Or.inr (Or.inl (by rw [hl, decide_eq_true (show 1 < (48 :: r).length by simp only [List.length_cons]; omega)]; rfl)))
            rw [hl] at e
            rw [e]
            exact refParseInt_p48 s w s0 c64 he hc' hw h1
          · have := refParseInt_plus s s w s0 c64 he hc' rfl s0 c64 he (Or.inr ⟨hw, h1⟩) (by rw [hl, decide_eq_false (show ¬ 1 < (48 :: r).length by simp only [List.length_cons]; omega)]; rfl)
            rw [hl] at this
            exact this
        · have := refParseInt_plus s s w s0 c64 he hc' rfl s0 c64 he (Or.inl (by rw [h0, show (48 : Int) = ((48 : UInt8).toNat : Int) from rfl, chr_is]; exact decide_eq_false hz)) (by rw [hl]; simp [hz])
          rw [hl] at this
          exact this
  · have E : readI s.data.toList = (0, 2) := by unfold readI; rw [if_pos (by omega)]
    have H := hid E
    clear E
    go_enter Tryd.func30, Tryd.ntmps30
    go_wp2_with fail
    go_ret2
    exact ⟨ret_ii (by rw [H.out]) (by rw [H.out]), rfl⟩
end Go.Proofs.YtdoojooepkdlhaaDoor.W
/- Contract of the reference: a double read, whatever the text. -/
namespace Go.Proofs.YtdoojooepkdlhaaDoor.W
open Go.ChangeShapes Go.WideShapes Go.RowKit
set_option linter.unusedVariables false

def pfV (p : Int × Int) : Value := .tuple #[.int .u64 p.1, .int .i64 p.2]
set_option maxRecDepth 1000000 in
set_option maxHeartbeats 4000000 in
theorem refPF_long (s : ByteArray) (w : World) (hs : s.size ≤ maxLen) (h : 64 < (s.size : Int)) :
    Calls Tryd.prog 27 #[.string s] w fun e w' => e = .returned (pfV (0, 2)) ∧ Below w.heap.size w w' := by
  unfold maxLen at hs
  go_enter Tryd.func27, Tryd.ntmps27
  go_wp2_with fail
  go_ret2
  exact ⟨rfl, Below.refl _ _⟩
set_option maxRecDepth 1000000 in
set_option maxHeartbeats 4000000 in
theorem refPF_nan (w : World) :
    Calls Tryd.prog 27 #[.string ⟨#[110, 97, 110]⟩] w fun e w' => e = .returned (pfV (9221120237041090560, 0)) ∧ Below w.heap.size w w' := by
  go_enter Tryd.func27, Tryd.ntmps27
  go_wp2_with fail
  go_ret2
  exact ⟨rfl, Below.refl _ _⟩
set_option maxRecDepth 1000000 in
set_option maxHeartbeats 4000000 in
theorem refPF_inf (w : World) :
    Calls Tryd.prog 27 #[.string ⟨#[105, 110, 102]⟩] w fun e w' => e = .returned (pfV (9218868437227405312, 0)) ∧ Below w.heap.size w w' := by
  go_enter Tryd.func27, Tryd.ntmps27
  go_wp2_with fail
  go_ret2
  exact ⟨rfl, Below.refl _ _⟩
set_option maxRecDepth 1000000 in
set_option maxHeartbeats 4000000 in
theorem refPF_minf (w : World) :
    Calls Tryd.prog 27 #[.string ⟨#[45, 105, 110, 102]⟩] w fun e w' => e = .returned (pfV (18442240474082181120, 0)) ∧ Below w.heap.size w w' := by
  go_enter Tryd.func27, Tryd.ntmps27
  go_wp2_with fail
  go_ret2
  exact ⟨rfl, Below.refl _ _⟩
set_option maxRecDepth 1000000 in
set_option maxHeartbeats 4000000 in
theorem refPF_empty (w : World) :
    Calls Tryd.prog 27 #[.string ⟨#[]⟩] w fun e w' => e = .returned (pfV (0, 20)) ∧ Below w.heap.size w w' := by
  go_enter Tryd.func27, Tryd.ntmps27
  go_wp2_with fail
  go_ret2
  exact ⟨rfl, Below.refl _ _⟩
/-- no mark ahead: of the three ways one -/
def NoMark (T : ByteArray) : Prop := (T.size : Int) < 2 ∨ (∃ h : 1 < T.size, ((T[0].toNat : Int) != 48) = true) ∨ (∃ h : 1 < T.size, ((T[0].toNat : Int) != 48) = false ∧ ((T[1].toNat : Int) != 120) = true)
set_option maxRecDepth 1000000 in
set_option maxHeartbeats 4000000 in
theorem refPF_plusNo (T : ByteArray) (w : World) (he : T.toList.isEmpty = false) (t0 : 0 < T.size) (t64 : T.size ≤ 64) (hc : ((T[0].toNat : Int) == 45) = false) (n1 : (T.toList == [110, 97, 110]) = false) (n2 : (T.toList == [105, 110, 102]) = false) (n3 : (T.toList == [45, 105, 110, 102]) = false) (hn : NoMark T) :
    Calls Tryd.prog 27 #[.string T] w fun e w' => e = .returned (pfV (0, 20)) ∧ Below w.heap.size w w' := by
  rcases hn with h | ⟨t2, h⟩ | ⟨t2, h, g⟩
  · go_enter Tryd.func27, Tryd.ntmps27
    go_wp2_with fail
    go_ret2
    exact ⟨rfl, Below.refl _ _⟩
  · have t2' : ¬ (T.size : Int) < 2 := by omega
    go_enter Tryd.func27, Tryd.ntmps27
    go_wp2_with fail
    go_ret2
    exact ⟨rfl, Below.refl _ _⟩
  · have t2' : ¬ (T.size : Int) < 2 := by omega
    go_enter Tryd.func27, Tryd.ntmps27
    go_wp2_with fail
    go_ret2
    exact ⟨rfl, Below.refl _ _⟩
set_option maxRecDepth 1000000 in
set_option maxHeartbeats 4000000 in
theorem refPF_minusNo (s T : ByteArray) (w : World) (s0 : 0 < s.size) (s64 : s.size ≤ 64) (he : s.toList.isEmpty = false) (hc : ((s[0].toNat : Int) == 45) = true) (hT : s.extract 1 s.size = T) (n1 : (s.toList == [110, 97, 110]) = false) (n2 : (s.toList == [105, 110, 102]) = false) (n3 : (s.toList == [45, 105, 110, 102]) = false) (t64 : T.size ≤ 64) (hn : NoMark T) :
    Calls Tryd.prog 27 #[.string s] w fun e w' => e = .returned (pfV (0, 20)) ∧ Below w.heap.size w w' := by
  rcases hn with h | ⟨t2, h⟩ | ⟨t2, h, g⟩
  · go_enter Tryd.func27, Tryd.ntmps27
    go_wp2_with fail
    go_ret2
    exact ⟨rfl, Below.refl _ _⟩
  · have t2' : ¬ (T.size : Int) < 2 := by omega
    go_enter Tryd.func27, Tryd.ntmps27
    go_wp2_with fail
    go_ret2
    exact ⟨rfl, Below.refl _ _⟩
  · have t2' : ¬ (T.size : Int) < 2 := by omega
    go_enter Tryd.func27, Tryd.ntmps27
    go_wp2_with fail
    go_ret2
    exact ⟨rfl, Below.refl _ _⟩
theorem noMark_body (T : ByteArray) (h : NoMark T) : bodyR T.data.toList = none := by
  refine body_noMark T ?_
  rcases h with h | ⟨t2, h⟩ | ⟨t2, h, g⟩
  · exact Or.inl (by omega)
  · refine Or.inr ⟨t2, Or.inl ?_⟩
    intro e; rw [e] at h; exact absurd h (by decide)
  · refine Or.inr ⟨t2, Or.inr ?_⟩
    intro e; rw [e] at g; exact absurd g (by decide)
theorem bne_chr (c d : UInt8) : ((c.toNat : Int) != (d.toNat : Int)) = !decide (c = d) := by rw [bne, chr_eq]
theorem mark_ways (T : ByteArray) : NoMark T ∨ ∃ h : 1 < T.size, T[0] = 48 ∧ T[1] = 120 := by
  by_cases h : 1 < T.size
  · by_cases h0 : T[0] = 48
    · by_cases h1 : T[1] = 120
      · exact Or.inr ⟨h, h0, h1⟩
      · refine Or.inl (Or.inr (Or.inr ⟨h, by rw [h0]; rfl, ?_⟩))
        rw [show (120 : Int) = ((120 : UInt8).toNat : Int) from rfl, bne_chr, decide_eq_false h1]; rfl
    · refine Or.inl (Or.inr (Or.inl ⟨h, ?_⟩))
      rw [show (48 : Int) = ((48 : UInt8).toNat : Int) from rfl, bne_chr, decide_eq_false h0]; rfl
  · exact Or.inl (Or.inl (by omega))
theorem names_of (s : ByteArray) (l : List UInt8) (h : s.data.toList ≠ l) : (s.toList == l) = false := by
  rw [toList_eq, beq_eq_false_iff_ne]; exact h
theorem ba_list (s : ByteArray) (l : List UInt8) (h : s.data.toList = l) : s = ⟨l.toArray⟩ := by
  cases s with | mk d => cases d; simp_all
theorem refParseFloat_c (s : ByteArray) (hs : s.size ≤ maxLen) (w : World) :
    Calls Tryd.prog 27 #[.string s] w fun e w' => e = .returned (pfV (readF s.data.toList)) ∧ Below w.heap.size w w' := by
  have sz := size_list s
  have tl := toList_eq s
  by_cases c64 : s.size ≤ 64
  · by_cases h1 : s.data.toList = nanT
    · have := refPF_nan w
      rw [h1, ba_list s _ h1]
      exact this
    by_cases h2 : s.data.toList = infT
    · have := refPF_inf w
      rw [h2, ba_list s _ h2]
      exact this
    by_cases h3 : s.data.toList = 45 :: infT
    · have := refPF_minf w
      rw [h3, ba_list s _ h3]
      exact this
    rw [readF_ans _ (by omega) h1 h2 h3]
    have n1 := names_of s _ h1
    have n2 := names_of s _ h2
    have n3 := names_of s _ h3
    cases hl : s.data.toList with
    | nil =>
      rw [ba_list s _ hl]
      exact refPF_empty w
    | cons c r =>
      obtain ⟨s0, h0⟩ := cons_at s c r hl
      rw [hl] at tl
      have he : s.toList.isEmpty = false := by rw [tl]; rfl
      by_cases hc : c = 45
      · subst hc
        have hc' : ((s[0].toNat : Int) == 45) = true := by rw [h0]; rfl
        have hx : s.extract 1 s.size = ⟨r.toArray⟩ := by
          have := cut_from0 s 1
          rw [hl] at this
          exact this
        have hr : (⟨r.toArray⟩ : ByteArray).data.toList = r := rfl
        have hrs := size_list ⟨r.toArray⟩
        rw [hr] at hrs
        rw [hl] at sz
        simp only [List.length_cons] at sz
        show Calls _ _ _ _ fun e w' => e = .returned (pfV (ansF 9223372036854775808 (bodyR r))) ∧ _
        generalize hT : (⟨r.toArray⟩ : ByteArray) = T at *
        have hr2 : T.data.toList = r := by rw [← hT]
        rw [← hr2]
        have t64 : T.size ≤ 64 := by omega
        rcases mark_ways T with hn | ⟨t2, m0, m1⟩
        · rw [noMark_body T hn]
          exact refPF_minusNo s T w s0 c64 he hc' hx n1 n2 n3 t64 hn
        · obtain ⟨e1, ST⟩ := stop_at T 2 (by omega)
          by_cases hd : ∃ h : e1 < T.size, T[e1] = 46
          · obtain ⟨hel, hdot⟩ := hd
            by_cases hne : e1 = 2
            · exact refPF_minusPlain s T w s0 c64 he hc' hx n1 n2 n3 t64 t2 m0 m1 e1 ST (fun h => absurd hne h)
            · obtain ⟨f1, SF⟩ := stop_at T (e1 + 1) (by omega)
              exact refPF_minusPoint s T w s0 c64 he hc' hx n1 n2 n3 t64 t2 m0 m1 e1 f1 hne hel hdot ST SF
          · exact refPF_minusPlain s T w s0 c64 he hc' hx n1 n2 n3 t64 t2 m0 m1 e1 ST (fun _ h e => hd ⟨h, e⟩)
      · obtain ⟨g1, g2⟩ := rest_not (c :: r) (fun d e => hc (by injection e))
        rw [g1, g2]
        have hc' : ((s[0].toNat : Int) == 45) = false := by rw [h0, show (45 : Int) = ((45 : UInt8).toNat : Int) from rfl, chr_is]; exact decide_eq_false hc
        rw [← hl]
        show Calls _ _ _ _ fun e w' => e = .returned (pfV (ansF 0 (bodyR s.data.toList))) ∧ _
        rcases mark_ways s with hn | ⟨t2, m0, m1⟩
        · rw [noMark_body s hn]
          exact refPF_plusNo s w he s0 c64 hc' n1 n2 n3 hn
        · obtain ⟨e1, ST⟩ := stop_at s 2 (by omega)
          by_cases hd : ∃ h : e1 < s.size, s[e1] = 46
          · obtain ⟨hel, hdot⟩ := hd
            by_cases hne : e1 = 2
            · exact refPF_plusPlain s w he s0 hc' n1 n2 n3 c64 t2 m0 m1 e1 ST (fun h => absurd hne h)
            · obtain ⟨f1, SF⟩ := stop_at s (e1 + 1) (by omega)
              exact refPF_plusPoint s w he s0 hc' n1 n2 n3 c64 t2 m0 m1 e1 f1 hne hel hdot ST SF
          · exact refPF_plusPlain s w he s0 hc' n1 n2 n3 c64 t2 m0 m1 e1 ST (fun _ h e => hd ⟨h, e⟩)
  · have E : readF s.data.toList = (0, 2) := by unfold readF; rw [if_pos (by omega)]
    rw [E]
    exact refPF_long s w hs (by omega)
end Go.Proofs.YtdoojooepkdlhaaDoor.W
/- casketref11: faults, names. -/
namespace Go.Proofs.YtdoojooepkdlhaaDoor.W
open Go.ChangeShapes Go.WideShapes Go.RowKit Go.Shelf
set_option linter.unusedVariables false
set_option linter.unusedSimpArgs false
/-- a token, where it ends, a fault: of what begins at a place -/
def nxR (p : Pc) (a : Nat) : Value := if p.size = 0 then .tuple #[tv noTk 0, .int .i64 (a : Nat), .agg #[.int .i64 60, .int .i64 (a : Nat)]] else if p.code ≠ 0 then .tuple #[tv noTk 0, .int .i64 (a : Nat), .agg #[.int .i64 p.code, .int .i64 (a : Nat)]] else .tuple #[tv p.t (a : Nat), .int .i64 ((a + p.size : Nat) : Int), .agg #[.int .i64 0, .int .i64 0]]
theorem nx_bad (n : Nat) (c : Int) (a : Nat) (hn : n ≠ 0) (hc : c ≠ 0) : nxR (badPc n c) a = .tuple #[tv noTk 0, .int .i64 (a : Nat), .agg #[.int .i64 c, .int .i64 (a : Nat)]] := by
  unfold nxR
  rw [if_neg (show ¬ (badPc n c).size = 0 from hn), if_pos (show (badPc n c).code ≠ 0 from hc)]
  rfl
theorem nx_ok (t : Tk) (n a : Nat) (hn : n ≠ 0) : nxR (okPc t n) a = .tuple #[tv t (a : Nat), .int .i64 ((a + n : Nat) : Int), .agg #[.int .i64 0, .int .i64 0]] := by
  unfold nxR
  rw [if_neg (show ¬ (okPc t n).size = 0 from hn), if_neg (fun h => h rfl)]
  rfl
theorem nx_ret {fn : Func} {p q r : Tmp} (h : fn.results = #[.cell p 30, .tmp q, .cell r 25]) (tmps : Array Value) (w : World) (b4 b6 : Nat) (v0 v1 v2 v3 v4 c a u : Value) (fr fr' : Nat × Nat) (hp : tmps.getD p undef = .pointer (some ⟨b4, 0, none⟩)) (hq : tmps.getD q undef = u) (hr : tmps.getD r undef = .pointer (some ⟨b6, 0, none⟩)) (hg : w.heap[b4]? = some (.cells #[v0, v1, v2, v3, v4] 30 fr)) (hg3 : w.heap[b6]? = some (.cells #[c, a] 25 fr')) : (results fn tmps).run Tryd.prog w = .ok (.tuple #[.agg #[v0, v1, v2, v3, v4], u, .agg #[c, a]]) w := by
  obtain ⟨d, hu, hd⟩ := ftT
  have hl := run_loadVar_row (P := Tryd.prog) w b6 25 25 #[c, a] fr' d hg3 hu (by cases d <;> first | rfl | exact hd) (by rw [ftSz]; rfl)
  have ht := tkT
  cases hu2 : Tryd.prog.underlying 30 with
  | none => rw [hu2] at ht; cases ht
  | some d2 =>
    rw [hu2] at ht
    simp only [Option.map_some, Option.some.injEq] at ht
    have hl2 := run_loadVar_row (P := Tryd.prog) w b4 30 30 #[v0, v1, v2, v3, v4] fr d2 hg hu2 (by cases d2 <;> first | rfl | exact ht) (by rw [tkSz]; rfl)
    have hp' : tmps[p]?.getD undef = .pointer (some ⟨b4, 0, none⟩) := by simpa using hp
    have hq' : tmps[q]?.getD undef = u := by simpa using hq
    have hr' : tmps[r]?.getD undef = .pointer (some ⟨b6, 0, none⟩) := by simpa using hr
    simp [results, h, hp', hq', hr', asAddr, hl, hl2]
theorem rFault_c (c : Int) (a : Nat) (w : World) : Calls Tryd.prog 19 #[.int .i64 c, .int .i64 a] w fun e w' => e = .returned (.tuple #[tv noTk 0, .int .i64 (a : Nat), .agg #[.int .i64 c, .int .i64 (a : Nat)]]) ∧ Below w.heap.size w w' := by
  go_enter Tryd.func19, Tryd.ntmps19
  go_wp2
  have g4 : ((w.alloc (.cells #[.int .i64 0, .int .i64 0, .string ⟨#[]⟩, .int .i64 0, .int .u64 0] 30)).alloc (.cells #[.int .i64 c, .int .i64 (a : Nat)] 25)).heap[w.heap.size]? = some (.cells #[.int .i64 0, .int .i64 0, .string ⟨#[]⟩, .int .i64 0, .int .u64 0] 30 (0, 0)) := (Below.heap_alloc _ _ _ (by simp)).trans (World.alloc_heap_new w _)
  have g6 : ((w.alloc (.cells #[.int .i64 0, .int .i64 0, .string ⟨#[]⟩, .int .i64 0, .int .u64 0] 30)).alloc (.cells #[.int .i64 c, .int .i64 (a : Nat)] 25)).heap[w.heap.size + 1]? = some (.cells #[.int .i64 c, .int .i64 (a : Nat)] 25 (0, 0)) := by
    have := World.alloc_heap_new (w.alloc (.cells #[.int .i64 0, .int .i64 0, .string ⟨#[]⟩, .int .i64 0, .int .u64 0] 30)) (.cells #[.int .i64 c, .int .i64 (a : Nat)] 25)
    rwa [World.size_alloc] at this
  refine bodyPost_ret (nx_ret rfl _ _ _ _ _ _ _ _ _ _ _ _ (0, 0) (0, 0) rfl rfl rfl g4 g6) rfl ?_
  exact ⟨rfl, ((Below.refl _ w).alloc (Nat.le_refl _) _).alloc (by simp) _⟩
/-- the two boxes of the results -/
structure Nx0 (w W : World) : Prop where
  bel : Below w.heap.size w W
  h4 : W.heap[w.heap.size]? = some (.cells #[.int .i64 0, .int .i64 0, .string ⟨#[]⟩, .int .i64 0, .int .u64 0] 30 (0, 0))
  h6 : W.heap[w.heap.size + 1]? = some (.cells #[.int .i64 0, .int .i64 0] 25 (0, 0))
theorem Nx0.start (w : World) : Nx0 w ((w.alloc (.cells #[.int .i64 0, .int .i64 0, .string ⟨#[]⟩, .int .i64 0, .int .u64 0] 30)).alloc (.cells #[.int .i64 0, .int .i64 0] 25)) := by
  refine ⟨((Below.refl _ w).alloc (Nat.le_refl _) _).alloc (by simp) _, (Below.heap_alloc _ _ _ (by simp)).trans (World.alloc_heap_new w _), ?_⟩
  have := World.alloc_heap_new (w.alloc (.cells #[.int .i64 0, .int .i64 0, .string ⟨#[]⟩, .int .i64 0, .int .u64 0] 30)) (.cells #[.int .i64 0, .int .i64 0] 25)
  rwa [World.size_alloc] at this
theorem Nx0.go {w W W' : World} (h : Nx0 w W) (hb : Below W.heap.size W W') : Nx0 w W' := ⟨h.bel.trans (hb.mono h.bel.size), row_keepX h.h4 hb, row_keepX h.h6 hb⟩
/-- both written -/
theorem Nx0.fin {w W : World} (h : Nx0 w W) (v0 v1 v2 v3 v4 c f : Value) :
    (((((((W.setCell ⟨w.heap.size, 0, none⟩ v0).setCell ⟨w.heap.size, 1, none⟩ v1).setCell ⟨w.heap.size, 2, none⟩ v2).setCell ⟨w.heap.size, 3, none⟩ v3).setCell ⟨w.heap.size, 4, none⟩ v4).setCell ⟨w.heap.size + 1, 0, none⟩ c).setCell ⟨w.heap.size + 1, 1, none⟩ f).heap[w.heap.size]? = some (.cells #[v0, v1, v2, v3, v4] 30 (0, 0)) ∧
    (((((((W.setCell ⟨w.heap.size, 0, none⟩ v0).setCell ⟨w.heap.size, 1, none⟩ v1).setCell ⟨w.heap.size, 2, none⟩ v2).setCell ⟨w.heap.size, 3, none⟩ v3).setCell ⟨w.heap.size, 4, none⟩ v4).setCell ⟨w.heap.size + 1, 0, none⟩ c).setCell ⟨w.heap.size + 1, 1, none⟩ f).heap[w.heap.size + 1]? = some (.cells #[c, f] 25 (0, 0)) ∧
    Below w.heap.size w (((((((W.setCell ⟨w.heap.size, 0, none⟩ v0).setCell ⟨w.heap.size, 1, none⟩ v1).setCell ⟨w.heap.size, 2, none⟩ v2).setCell ⟨w.heap.size, 3, none⟩ v3).setCell ⟨w.heap.size, 4, none⟩ v4).setCell ⟨w.heap.size + 1, 0, none⟩ c).setCell ⟨w.heap.size + 1, 1, none⟩ f) := by
  have h5 := five_setX h.h4 v0 v1 v2 v3 v4
  have b5 := five_belowX h.bel (gb := w.heap.size) (Nat.le_refl _) v0 v1 v2 v3 v4
  have o5 : (((((W.setCell ⟨w.heap.size, 0, none⟩ v0).setCell ⟨w.heap.size, 1, none⟩ v1).setCell ⟨w.heap.size, 2, none⟩ v2).setCell ⟨w.heap.size, 3, none⟩ v3).setCell ⟨w.heap.size, 4, none⟩ v4).heap[w.heap.size + 1]? = some (.cells #[.int .i64 0, .int .i64 0] 25 (0, 0)) := ((((Below.heap_setCell _ _ _ _ (by show w.heap.size + 1 ≠ w.heap.size; omega)).trans (Below.heap_setCell _ _ _ _ (by show w.heap.size + 1 ≠ w.heap.size; omega))).trans (Below.heap_setCell _ _ _ _ (by show w.heap.size + 1 ≠ w.heap.size; omega))).trans (Below.heap_setCell _ _ _ _ (by show w.heap.size + 1 ≠ w.heap.size; omega))).trans ((Below.heap_setCell _ _ _ _ (by show w.heap.size + 1 ≠ w.heap.size; omega)).trans h.h6)
  generalize ((((W.setCell ⟨w.heap.size, 0, none⟩ v0).setCell ⟨w.heap.size, 1, none⟩ v1).setCell ⟨w.heap.size, 2, none⟩ v2).setCell ⟨w.heap.size, 3, none⟩ v3).setCell ⟨w.heap.size, 4, none⟩ v4 = W5 at *
  refine ⟨((Below.heap_setCell _ _ _ _ (by show w.heap.size ≠ w.heap.size + 1; omega)).trans (Below.heap_setCell _ _ _ _ (by show w.heap.size ≠ w.heap.size + 1; omega))).trans h5, heap_setX (c := [c, .int .i64 0]) (heap_setX (c := [.int .i64 0, .int .i64 0]) o5 0 c) 1 f, (b5.setCell (p := ⟨w.heap.size + 1, 0, none⟩) (by show w.heap.size ≤ w.heap.size + 1; omega) c).setCell (p := ⟨w.heap.size + 1, 1, none⟩) (by show w.heap.size ≤ w.heap.size + 1; omega) f⟩
end Go.Proofs.YtdoojooepkdlhaaDoor.W
/- casketref11: names. -/
namespace Go.Proofs.YtdoojooepkdlhaaDoor.W
open Go.ChangeShapes Go.WideShapes Go.RowKit Go.Shelf
set_option linter.unusedVariables false
set_option linter.unusedSimpArgs false
theorem ext_take (s : ByteArray) (a n : Nat) : (s.extract a (a + n)).data.toList = (s.data.toList.drop a).take n := by
  simp [List.drop_take]
set_option maxRecDepth 100000 in
set_option maxHeartbeats 1000000 in
theorem rName_core (s S : ByteArray) (hs : s.size ≤ 1000000) (a n tE : Nat) (hto : tE = a + n) (hn0 : n ≠ 0) (han : a + n ≤ s.size) (hn : runN nameB (s.data.toList.drop a) = n) (hS : s.extract a tE = S) (hSz : S.size = n) (R : Value)
    (ways : (31 < n ∧ R = .tuple #[tv noTk 0, .int .i64 (a : Nat), .agg #[.int .i64 63, .int .i64 (a : Nat)]]) ∨ (¬ 31 < n ∧ ((∃ x : Int, ((S.toList == [105, 110, 102]) = true ∨ ((S.toList == [105, 110, 102]) = false ∧ (S.toList == [110, 97, 110]) = true)) ∧ (∀ w, Calls Tryd.prog 27 #[.string S] w fun e w' => e = .returned (.tuple #[.int .u64 x, .int .i64 0]) ∧ Below w.heap.size w w') ∧ R = .tuple #[tv ⟨5, ⟨#[]⟩, 0, x⟩ (a : Nat), .int .i64 (tE : Int), .agg #[.int .i64 0, .int .i64 0]]) ∨
      (∃ b : Bool, (S.toList == [105, 110, 102]) = false ∧ (S.toList == [110, 97, 110]) = false ∧ (∀ w, Calls Tryd.prog 28 #[.string S] w fun e w' => e = .returned (.bool b) ∧ w' = w) ∧ R = .tuple #[tv ⟨if b = true then 2 else 1, S, 0, 0⟩ (a : Nat), .int .i64 (tE : Int), .agg #[.int .i64 0, .int .i64 0]])))) (w : World) :
    Calls Tryd.prog 14 #[.string s, .int .i64 a] w fun e w' => e = .returned R ∧ Below w.heap.size w w' := by
  have cg := rGoesOn_c
  have cf := rFault_c 63 a
  simp only [tv, noTk] at cf
  have HS := hid hs
  have HA := hid (And.intro han hn)
  have HE := hid (And.intro hS hSz)
  have HTO := hid hto
  have HW := hid ways
  have HN0 := hid hn0
  have hN := Nx0.start w
  clear hs han hn hS hSz ways hn0 hto
  go_enter Tryd.func14, Tryd.ntmps14
  go_upto_region 1 with fail
  generalize World.alloc (World.alloc w _) _ = W at *
  have HN := hid hN
  clear hN
  go_wp2_with fail
  go_loop [7] (fun i => ∃ k : Nat, i = .int .i64 k ∧ a ≤ k ∧ k ≤ s.size ∧ runN nameB (s.data.toList.drop k) + k = tE) (fun i => s.size - (intOf i).toNat)
  case atStart => exact ⟨a, rfl, Nat.le_refl _, by have := HA.out.1; omega, by have := HA.out.2; have := HTO.out; omega⟩
  case round =>
    obtain ⟨k, rfl, h1, h2, h3⟩ := hrel
    have e1 : IntKind.i64.wrap ((k : Int) + 1) = ((k + 1 : Nat) : Int) := by have := HS.out; rw [IntKind.wrap_i64]; omega
    have e2 : wrap64 ((k : Int) + 1) = ((k + 1 : Nat) : Int) := by have := HS.out; unfold wrap64; omega
    have on : (k < s.size ∧ ∃ h : k < s.size, nameB s[k] = true) ∨ (k = tE ∧ (¬ k < s.size ∨ ∃ h : k < s.size, nameB s[k] = false)) := by
      by_cases c : k < s.size
      · have hd := drop_cons s k c
        cases b : nameB s[k]
        · right
          rw [hd, runN_cons_f b] at h3
          exact ⟨by omega, .inr ⟨c, b⟩⟩
        · exact .inl ⟨c, c, b⟩
      · right
        rw [List.drop_eq_nil_of_le (by rw [size_list]; omega)] at h3
        exact ⟨by have : runN nameB [] = 0 := rfl; omega, .inl c⟩
    rcases on with ⟨_, c, b⟩ | ⟨ek, hx⟩
    · have hd := drop_cons s k c
      have cgk := cg s[k]
      rw [b] at cgk
      have c1 : (k : Int) < (s.size : Int) := by omega
      have c0 : (0 : Int) ≤ (k : Int) := by omega
      have fin := hid (show runN nameB (s.data.toList.drop (k + 1)) + (k + 1) = tE by rw [hd, runN_cons_t b] at h3; omega)
      have HH := hid (And.intro h1 c)
      clear h1 h2 h3 hd b
      go_wp2_with (go_at_call 26; (with_reducible refine (cgk _).mono ?_); rintro e w' ⟨rfl, rfl⟩)
      go_round
      case rel => exact ⟨k + 1, by go_num, by have := HH.out.1; omega, HH.out.2, fin.out⟩
      case measure => have := HH.out.2; simp [intOf]; omega
    · subst ek
      obtain ⟨hS, hSz⟩ := HE.out
      have l0 : (0 : Int) ≤ (a : Int) := by omega
      have l1 : (a : Int) ≤ (k : Int) := by omega
      have l2 : (k : Int) ≤ (s.size : Int) := by omega
      have ex : (¬ (k : Int) < (s.size : Int)) ∨ ∃ h : k < s.size, ∀ w, Calls Tryd.prog 26 #[.int .u8 s[k].toNat] w fun e w' => e = .returned (.bool false) ∧ w' = w := by
        rcases hx with hx | ⟨h, hb⟩
        · left; omega
        · right; exact ⟨h, fun w => by have := cg s[k] w; rw [hb] at this; exact this⟩
      have HSZ := hid hSz
      clear hx h1 h2 h3 hSz e1 e2 cg
      have hN := HN.out
      rcases HW.out with ⟨b1, hR⟩ | ⟨b1, ⟨x, hb, cp, hR⟩ | ⟨b, hb1, hb2, cr, hR⟩⟩
      · have z1 : (S.size : Int) > 31 := by have := HSZ.out; omega
        have HR := hid hR
        clear hR b1 HW
        rcases ex with ex | ⟨hk, cgk⟩
        all_goals (
          go_wp2_with (first | (go_at_call 26; (with_reducible refine (cgk _).mono ?_); rintro e w' ⟨rfl, rfl⟩) | (go_at_call 19; (with_reducible refine (cf _).mono ?_); rintro e W2 ⟨rfl, hb⟩; (replace hN := hN.go hb); clear hb; (have k0 : W2.cell? ⟨w.heap.size, 0, none⟩ = some (.int .i64 0) := row_cellsX hN.h4 0); (have k1 : W2.cell? ⟨w.heap.size, 1, none⟩ = some (.int .i64 0) := row_cellsX hN.h4 1); (have k2 : W2.cell? ⟨w.heap.size, 2, none⟩ = some (.string ⟨#[]⟩) := row_cellsX hN.h4 2); (have k3 : W2.cell? ⟨w.heap.size, 3, none⟩ = some (.int .i64 0) := row_cellsX hN.h4 3); (have k4 : W2.cell? ⟨w.heap.size, 4, none⟩ = some (.int .u64 0) := row_cellsX hN.h4 4); (have k5 : W2.cell? ⟨w.heap.size + 1, 0, none⟩ = some (.int .i64 0) := row_cellsX hN.h6 0); (have k6 : W2.cell? ⟨w.heap.size + 1, 1, none⟩ = some (.int .i64 0) := row_cellsX hN.h6 1); (have z4 := row_thawX hN.h4); (have z6 := row_thawX hN.h6); (have HN2 := hid hN); clear hN))
          refine bodyPost_ret (nx_ret rfl _ _ w.heap.size (w.heap.size + 1) _ _ _ _ _ _ _ _ (0, 0) (0, 0) rfl rfl rfl (HN2.out.fin _ _ _ _ _ _ _).1 (HN2.out.fin _ _ _ _ _ _ _).2.1) rfl ?_
          exact ⟨by rw [HR.out]; rfl, (HN2.out.fin _ _ _ _ _ _ _).2.2⟩)
      · have z1 : ¬ (S.size : Int) > 31 := by have := HSZ.out; omega
        have HR := hid hR
        clear hR b1 HW
        rcases hb with hb | ⟨hb, hb2⟩
        all_goals rcases ex with ex | ⟨hk, cgk⟩
        all_goals (
          go_wp2_with (first | (go_at_call 26; (with_reducible refine (cgk _).mono ?_); rintro e w' ⟨rfl, rfl⟩) | (go_at_call 27; (with_reducible refine (cp _).mono ?_); rintro e W2 ⟨rfl, hb⟩; (replace hN := hN.go hb); clear hb; (have k0 : W2.cell? ⟨w.heap.size, 0, none⟩ = some (.int .i64 0) := row_cellsX hN.h4 0); (have k1 : W2.cell? ⟨w.heap.size, 1, none⟩ = some (.int .i64 0) := row_cellsX hN.h4 1); (have k2 : W2.cell? ⟨w.heap.size, 2, none⟩ = some (.string ⟨#[]⟩) := row_cellsX hN.h4 2); (have k3 : W2.cell? ⟨w.heap.size, 3, none⟩ = some (.int .i64 0) := row_cellsX hN.h4 3); (have k4 : W2.cell? ⟨w.heap.size, 4, none⟩ = some (.int .u64 0) := row_cellsX hN.h4 4); (have k5 : W2.cell? ⟨w.heap.size + 1, 0, none⟩ = some (.int .i64 0) := row_cellsX hN.h6 0); (have k6 : W2.cell? ⟨w.heap.size + 1, 1, none⟩ = some (.int .i64 0) := row_cellsX hN.h6 1); (have z4 := row_thawX hN.h4); (have z6 := row_thawX hN.h6); (have HN2 := hid hN); clear hN))
          refine bodyPost_ret (nx_ret rfl _ _ w.heap.size (w.heap.size + 1) _ _ _ _ _ _ _ _ (0, 0) (0, 0) rfl rfl rfl (HN2.out.fin _ _ _ _ _ _ _).1 (HN2.out.fin _ _ _ _ _ _ _).2.1) rfl ?_
          exact ⟨by rw [HR.out]; rfl, (HN2.out.fin _ _ _ _ _ _ _).2.2⟩)
      · have z1 : ¬ (S.size : Int) > 31 := by have := HSZ.out; omega
        have HR := hid hR
        have HN2 := hid hN
        have k0 : W.cell? ⟨w.heap.size, 0, none⟩ = some (.int .i64 0) := row_cellsX hN.h4 0; have k1 : W.cell? ⟨w.heap.size, 1, none⟩ = some (.int .i64 0) := row_cellsX hN.h4 1; have k2 : W.cell? ⟨w.heap.size, 2, none⟩ = some (.string ⟨#[]⟩) := row_cellsX hN.h4 2; have k3 : W.cell? ⟨w.heap.size, 3, none⟩ = some (.int .i64 0) := row_cellsX hN.h4 3; have k4 : W.cell? ⟨w.heap.size, 4, none⟩ = some (.int .u64 0) := row_cellsX hN.h4 4; have k5 : W.cell? ⟨w.heap.size + 1, 0, none⟩ = some (.int .i64 0) := row_cellsX hN.h6 0; have k6 : W.cell? ⟨w.heap.size + 1, 1, none⟩ = some (.int .i64 0) := row_cellsX hN.h6 1; have z4 := row_thawX hN.h4; have z6 := row_thawX hN.h6
        clear hR b1 HW hN
        cases b
        all_goals rcases ex with ex | ⟨hk, cgk⟩
        all_goals (
          go_wp2_with (first | (go_at_call 26; (with_reducible refine (cgk _).mono ?_); rintro e w' ⟨rfl, rfl⟩) | (go_at_call 28; (with_reducible refine (cr _).mono ?_); rintro e w' ⟨rfl, rfl⟩))
          refine bodyPost_ret (nx_ret rfl _ _ w.heap.size (w.heap.size + 1) _ _ _ _ _ _ _ _ (0, 0) (0, 0) rfl rfl rfl (HN2.out.fin _ _ _ _ _ _ _).1 (HN2.out.fin _ _ _ _ _ _ _).2.1) rfl ?_
          exact ⟨by rw [HR.out]; rfl, (HN2.out.fin _ _ _ _ _ _ _).2.2⟩)
end Go.Proofs.YtdoojooepkdlhaaDoor.W
/- casketref11: names, whole numbers, a string that does not end. -/
namespace Go.Proofs.YtdoojooepkdlhaaDoor.W
open Go.ChangeShapes Go.WideShapes Go.RowKit Go.Shelf
set_option linter.unusedVariables false
set_option linter.unusedSimpArgs false
theorem start_dig (c : UInt8) (h : startB c = true) : digB c = false ∧ nameB c = true := by
  rw [name_start, h]
  refine ⟨?_, rfl⟩
  unfold startB at h
  unfold digB
  simp at h ⊢
  omega
theorem readF_inf : readF infT = (9218868437227405312, 0) := by kernel_rfl
theorem readF_nan : readF nanT = (9221120237041090560, 0) := by kernel_rfl
theorem rName_c (s : ByteArray) (hs : s.size ≤ 1000000) (a : Nat) (ha : a < s.size) (hst : startB s[a] = true) (w : World) : Calls Tryd.prog 14 #[.string s, .int .i64 a] w fun e w' => e = .returned (nxR (nameP (s.data.toList.drop a)) a) ∧ Below w.heap.size w w' := by
  have hd := drop_cons s a ha
  obtain ⟨d1, d2⟩ := start_dig _ hst
  obtain ⟨n, hn⟩ : ∃ n, runN nameB (s.data.toList.drop a) = n := ⟨_, rfl⟩
  have hle := runN_le nameB (s.data.toList.drop a)
  rw [List.length_drop, size_list, hn] at hle
  have hn0 : n ≠ 0 := by rw [← hn, hd, runN_cons_t d2]; omega
  obtain ⟨S, hS⟩ : ∃ S, s.extract a (a + n) = S := ⟨_, rfl⟩
  have hSl : S.data.toList = (s.data.toList.drop a).take n := by rw [← hS]; exact ext_take s a n
  have hSz : S.size = n := by rw [← size_list, hSl, List.length_take, List.length_drop, size_list]; omega
  have hnp : nameP (s.data.toList.drop a) = if 31 < n then badPc n 63 else okPc (namedT ((s.data.toList.drop a).take n)) n := by
    unfold nameP
    rw [hn, if_neg]
    rintro (h | h)
    · exact hn0 h
    · rw [hd] at h
      have : digB s[a] = true := h
      rw [d1] at this
      cases this
  rw [hnp]
  refine rName_core s S hs a n (a + n) rfl hn0 (by omega) hn hS hSz _ ?_ w
  by_cases c : 31 < n
  · left
    rw [if_pos c]
    exact ⟨c, nx_bad n 63 a hn0 (by decide)⟩
  · right
    rw [if_neg c, nx_ok _ n a hn0, ← hSl]
    refine ⟨c, ?_⟩
    have hSL : S.toList = S.data.toList := toList_eq S
    rw [hSL]
    have cp := fun w => refParseFloat_c S (by rw [hSz]; unfold maxLen; omega) w
    unfold namedT
    by_cases i1 : S.data.toList = infT
    · left
      rw [i1, readF_inf] at cp
      refine ⟨9218868437227405312, .inl (by rw [i1]; rfl), cp, by rw [if_pos i1]⟩
    · have n1 : (S.data.toList == [105, 110, 102]) = false := by rw [beq_eq_false_iff_ne]; exact i1
      by_cases i2 : S.data.toList = nanT
      · left
        rw [i2, readF_nan] at cp
        refine ⟨9221120237041090560, .inr ⟨n1, by rw [i2]; rfl⟩, cp, by rw [if_neg i1, if_pos i2]⟩
      · right
        have n2 : (S.data.toList == [110, 97, 110]) = false := by rw [beq_eq_false_iff_ne]; exact i2
        refine ⟨decide (S.data.toList ∈ words), n1, n2, fun w => rReserved_c S w, ?_⟩
        rw [if_neg i1, if_neg i2]
        by_cases i3 : S.data.toList ∈ words
        · rw [if_pos i3, decide_eq_true i3, bytes_self]; rfl
        · rw [if_neg i3, decide_eq_false i3, bytes_self]; rfl
set_option maxRecDepth 100000 in
set_option maxHeartbeats 1000000 in
theorem rWhole_core (s S : ByteArray) (hs : s.size ≤ 1000000) (a n tE : Nat) (ha : a < s.size) (hto : tE = a + n) (hn0 : n ≠ 0) (han : a + n ≤ s.size) (hn : runN digB (s.data.toList.drop a) = n) (hS : s.extract a tE = S) (x c : Int) (cp : ∀ w, Calls Tryd.prog 30 #[.string S] w fun e w' => e = .returned (.tuple #[.int .i64 x, .int .i64 c]) ∧ w' = w) (hx : (((s[a].toNat : Int) == 48) = false) ∨ (((s[a].toNat : Int) == 48) = true ∧ (¬ ((a + 1 : Nat) : Int) < (s.size : Int) ∨ ∃ h : a + 1 < s.size, ((s[a + 1].toNat : Int) == 120) = false))) (R : Value)
    (ways : (c ≠ 0 ∧ R = .tuple #[tv noTk 0, .int .i64 (a : Nat), .agg #[.int .i64 62, .int .i64 (a : Nat)]]) ∨ (c = 0 ∧ R = .tuple #[tv ⟨4, ⟨#[]⟩, x, 0⟩ (a : Nat), .int .i64 (tE : Int), .agg #[.int .i64 0, .int .i64 0]])) (w : World) :
    Calls Tryd.prog 16 #[.string s, .int .i64 a] w fun e w' => e = .returned R ∧ Below w.heap.size w w' := by
  have cg := rDigit_c
  have cf := rFault_c 62 a
  simp only [tv, noTk] at cf
  have HS := hid hs
  have HA := hid (And.intro han hn)
  have HTO := hid hto
  have HE := hid hS
  have HW := hid ways
  have hN := Nx0.start w
  have a0 : (0 : Int) ≤ (a : Int) := by omega
  have a1 : (a : Int) < (s.size : Int) := by omega
  have a2 : IntKind.i64.wrap ((a : Int) + 1) = ((a + 1 : Nat) : Int) := by rw [IntKind.wrap_i64]; omega
  have a3 : wrap64 ((a : Int) + 1) = ((a + 1 : Nat) : Int) := by unfold wrap64; omega
  have a4 : (0 : Int) ≤ ((a + 1 : Nat) : Int) := by omega
  clear hs han hn hS ways hn0 hto
  rcases hx with hx | ⟨hx, hy | ⟨hy1, hy2⟩⟩
  all_goals (
    (try have a5 : ((a + 1 : Nat) : Int) < (s.size : Int) := by omega)
    go_enter Tryd.func16, Tryd.ntmps16
    go_upto_region 1 with fail
    generalize World.alloc (World.alloc w _) _ = W at *
    have HN := hid hN
    clear hN
    go_wp2_with fail
    go_loop [7] (fun i => ∃ k : Nat, i = .int .i64 k ∧ a ≤ k ∧ k ≤ s.size ∧ runN digB (s.data.toList.drop k) + k = tE) (fun i => s.size - (intOf i).toNat)
    case atStart => exact ⟨a, rfl, Nat.le_refl _, by have := HA.out.1; omega, by have := HA.out.2; have := HTO.out; omega⟩
    case round =>
      obtain ⟨k, rfl, h1, h2, h3⟩ := hrel
      have e1 : IntKind.i64.wrap ((k : Int) + 1) = ((k + 1 : Nat) : Int) := by have := HS.out; rw [IntKind.wrap_i64]; omega
      have e2 : wrap64 ((k : Int) + 1) = ((k + 1 : Nat) : Int) := by have := HS.out; unfold wrap64; omega
      have on : (k < s.size ∧ ∃ h : k < s.size, digB s[k] = true) ∨ (k = tE ∧ (¬ k < s.size ∨ ∃ h : k < s.size, digB s[k] = false)) := by
        by_cases c : k < s.size
        · have hd := drop_cons s k c
          cases b : digB s[k]
          · right
            rw [hd, runN_cons_f b] at h3
            exact ⟨by omega, .inr ⟨c, b⟩⟩
          · exact .inl ⟨c, c, b⟩
        · right
          rw [List.drop_eq_nil_of_le (by rw [size_list]; omega)] at h3
          exact ⟨by have : runN digB [] = 0 := rfl; omega, .inl c⟩
      rcases on with ⟨_, c, b⟩ | ⟨ek, hx2⟩
      · have hd := drop_cons s k c
        have cgk := cg s[k]
        rw [b] at cgk
        have c1 : (k : Int) < (s.size : Int) := by omega
        have c0 : (0 : Int) ≤ (k : Int) := by omega
        have fin := hid (show runN digB (s.data.toList.drop (k + 1)) + (k + 1) = tE by rw [hd, runN_cons_t b] at h3; omega)
        have HH := hid (And.intro h1 c)
        clear h1 h2 h3 hd b
        go_wp2_with (go_at_call 15; (with_reducible refine (cgk _).mono ?_); rintro e w' ⟨rfl, rfl⟩)
        go_round
        case rel => exact ⟨k + 1, by go_num, by have := HH.out.1; omega, HH.out.2, fin.out⟩
        case measure => have := HH.out.2; simp [intOf]; omega
      · subst ek
        have hS := HE.out
        have l1 : (a : Int) ≤ (k : Int) := by omega
        have l2 : (k : Int) ≤ (s.size : Int) := by omega
        have ex : (¬ (k : Int) < (s.size : Int)) ∨ ∃ h : k < s.size, ∀ w, Calls Tryd.prog 15 #[.int .u8 s[k].toNat] w fun e w' => e = .returned (.bool false) ∧ w' = w := by
          rcases hx2 with hx2 | ⟨h, hb⟩
          · left; omega
          · right; exact ⟨h, fun w => by have := cg s[k] w; rw [hb] at this; exact this⟩
        clear hx2 h1 h2 h3 e1 e2 cg
        have hN := HN.out
        rcases HW.out with ⟨b1, hR⟩ | ⟨b1, hR⟩
        · have HR := hid hR
          clear hR HW
          rcases ex with ex | ⟨hk, cgk⟩
          all_goals (
            go_wp2_with (first | (go_at_call 15; (with_reducible refine (cgk _).mono ?_); rintro e w' ⟨rfl, rfl⟩) | (go_at_call 30; (with_reducible refine (cp _).mono ?_); rintro e w' ⟨rfl, rfl⟩) | (go_at_call 19; (with_reducible refine (cf _).mono ?_); rintro e W2 ⟨rfl, hb⟩; (replace hN := hN.go hb); clear hb; (have k0 : W2.cell? ⟨w.heap.size, 0, none⟩ = some (.int .i64 0) := row_cellsX hN.h4 0); (have k1 : W2.cell? ⟨w.heap.size, 1, none⟩ = some (.int .i64 0) := row_cellsX hN.h4 1); (have k2 : W2.cell? ⟨w.heap.size, 2, none⟩ = some (.string ⟨#[]⟩) := row_cellsX hN.h4 2); (have k3 : W2.cell? ⟨w.heap.size, 3, none⟩ = some (.int .i64 0) := row_cellsX hN.h4 3); (have k4 : W2.cell? ⟨w.heap.size, 4, none⟩ = some (.int .u64 0) := row_cellsX hN.h4 4); (have k5 : W2.cell? ⟨w.heap.size + 1, 0, none⟩ = some (.int .i64 0) := row_cellsX hN.h6 0); (have k6 : W2.cell? ⟨w.heap.size + 1, 1, none⟩ = some (.int .i64 0) := row_cellsX hN.h6 1); (have z4 := row_thawX hN.h4); (have z6 := row_thawX hN.h6); (have HN2 := hid hN); clear hN))
            refine bodyPost_ret (nx_ret rfl _ _ w.heap.size (w.heap.size + 1) _ _ _ _ _ _ _ _ (0, 0) (0, 0) rfl rfl rfl (HN2.out.fin _ _ _ _ _ _ _).1 (HN2.out.fin _ _ _ _ _ _ _).2.1) rfl ?_
            exact ⟨by rw [HR.out]; rfl, (HN2.out.fin _ _ _ _ _ _ _).2.2⟩)
        · have HR := hid hR
          have HN2 := hid hN
          subst b1
          have k0 : W.cell? ⟨w.heap.size, 0, none⟩ = some (.int .i64 0) := row_cellsX hN.h4 0; have k1 : W.cell? ⟨w.heap.size, 1, none⟩ = some (.int .i64 0) := row_cellsX hN.h4 1; have k2 : W.cell? ⟨w.heap.size, 2, none⟩ = some (.string ⟨#[]⟩) := row_cellsX hN.h4 2; have k3 : W.cell? ⟨w.heap.size, 3, none⟩ = some (.int .i64 0) := row_cellsX hN.h4 3; have k4 : W.cell? ⟨w.heap.size, 4, none⟩ = some (.int .u64 0) := row_cellsX hN.h4 4; have k5 : W.cell? ⟨w.heap.size + 1, 0, none⟩ = some (.int .i64 0) := row_cellsX hN.h6 0; have k6 : W.cell? ⟨w.heap.size + 1, 1, none⟩ = some (.int .i64 0) := row_cellsX hN.h6 1; have z4 := row_thawX hN.h4; have z6 := row_thawX hN.h6
          clear hR HW hN
          rcases ex with ex | ⟨hk, cgk⟩
          all_goals (
            go_wp2_with (first | (go_at_call 15; (with_reducible refine (cgk _).mono ?_); rintro e w' ⟨rfl, rfl⟩) | (go_at_call 30; (with_reducible refine (cp _).mono ?_); rintro e w' ⟨rfl, rfl⟩))
            refine bodyPost_ret (nx_ret rfl _ _ w.heap.size (w.heap.size + 1) _ _ _ _ _ _ _ _ (0, 0) (0, 0) rfl rfl rfl (HN2.out.fin _ _ _ _ _ _ _).1 (HN2.out.fin _ _ _ _ _ _ _).2.1) rfl ?_
            exact ⟨by rw [HR.out]; rfl, (HN2.out.fin _ _ _ _ _ _ _).2.2⟩))
end Go.Proofs.YtdoojooepkdlhaaDoor.W
/- casketref11: hexadecimal numbers. -/
namespace Go.Proofs.YtdoojooepkdlhaaDoor.W
open Go.ChangeShapes Go.WideShapes Go.RowKit Go.Shelf
set_option linter.unusedVariables false
set_option linter.unusedSimpArgs false
theorem run_ways (p : UInt8 → Bool) (s : ByteArray) (k : Nat) {tE : Nat} (h3 : runN p (s.data.toList.drop k) + k = tE) (h2 : k ≤ s.size) : (∃ h : k < s.size, p s[k] = true) ∨ (k = tE ∧ (¬ k < s.size ∨ ∃ h : k < s.size, p s[k] = false)) := by
  by_cases c : k < s.size
  · have hd := drop_cons s k c
    cases b : p s[k]
    · right
      rw [hd, runN_cons_f b] at h3
      exact ⟨by omega, .inr ⟨c, b⟩⟩
    · exact .inl ⟨c, b⟩
  · right
    rw [List.drop_eq_nil_of_le (by rw [size_list]; omega)] at h3
    exact ⟨by have : runN p [] = 0 := rfl; omega, .inl c⟩
theorem hexP_ways (c : UInt8) : (hexPB c = true → 0 ≤ hexV c ∨ (¬ 0 ≤ hexV c ∧ ((c.toNat : Int) == 46) = true)) ∧ (hexPB c = false → ¬ 0 ≤ hexV c ∧ ((c.toNat : Int) == 46) = false) := by
  have e1 : hexPB c = (decide (c.toNat = 46) || decide (0 ≤ hexV c)) := by
    unfold hexPB
    rw [← u8_eq c 46 (by decide)]; rfl
  rw [e1]
  constructor
  · intro h
    by_cases g : 0 ≤ hexV c
    · exact .inl g
    · right; simp [g] at h; exact ⟨g, by rw [h]; rfl⟩
  · intro h
    simp at h
    exact ⟨by omega, by rw [beq_eq_false_iff_ne]; intro q; exact h.1 (by omega)⟩
theorem wrap_in {s : ByteArray} (hs : s.size ≤ 1000000) {j m : Nat} (hj : j ≤ s.size + 1) (h : j + 1 = m) : IntKind.i64.wrap ((j : Int) + 1) = (m : Int) ∧ wrap64 ((j : Int) + 1) = (m : Int) := by
  constructor
  · rw [IntKind.wrap_i64]; omega
  · unfold wrap64; omega
theorem meas_up {n k : Nat} (h : k < n) : n - (intOf (.int .i64 ((k + 1 : Nat) : Int))).toNat < n - (intOf (.int .i64 (k : Int))).toNat := by
  simp [intOf]; omega
theorem run_next (p : UInt8 → Bool) (s : ByteArray) {k tE : Nat} (c : k < s.size) (b : p s[k] = true) (h3 : runN p (s.data.toList.drop k) + k = tE) : runN p (s.data.toList.drop (k + 1)) + (k + 1) = tE := by
  rw [drop_cons s k c, runN_cons_t b] at h3
  omega
set_option maxRecDepth 100000 in
set_option maxHeartbeats 4000000 in
theorem rHexN_core (s S : ByteArray) (hs : s.size ≤ 1000000) (a A1 A2 k1 tE : Nat) (hA1 : a + 1 = A1) (hA2 : a + 2 = A2) (ha0 : a < s.size) (ha : A1 < s.size) (x0 : ((s[a].toNat : Int) == 48) = true) (x1 : ((s[A1].toNat : Int) == 120) = true) (hk1 : runN hexPB (s.data.toList.drop A2) + A2 = k1) (hS : s.extract a tE = S) (x c : Int) (cp : ∀ w, Calls Tryd.prog 27 #[.string S] w fun e w' => e = .returned (.tuple #[.int .u64 x, .int .i64 c]) ∧ Below w.heap.size w w')
    (K2 : Nat) (hK2 : k1 + 1 = K2) (hp : (tE = k1 ∧ (¬ k1 < s.size ∨ ∃ h : k1 < s.size, ((s[k1].toNat : Int) == 112) = false)) ∨ (∃ h : k1 < s.size, ((s[k1].toNat : Int) == 112) = true ∧ ∃ k3, k1 ≤ k3 ∧ (runN digB (s.data.toList.drop k3) + k3 = tE ∧ k3 ≤ s.size) ∧ ((k3 = K2 + 1 ∧ ∃ h : K2 < s.size, ((s[K2].toNat : Int) == 43) = true ∨ (((s[K2].toNat : Int) == 43) = false ∧ ((s[K2].toNat : Int) == 45) = true)) ∨ (k3 = K2 ∧ (¬ K2 < s.size ∨ ∃ h : K2 < s.size, ((s[K2].toNat : Int) == 43) = false ∧ ((s[K2].toNat : Int) == 45) = false))))) (R : Value)
    (ways : (c ≠ 0 ∧ R = .tuple #[tv noTk 0, .int .i64 (a : Nat), .agg #[.int .i64 62, .int .i64 (a : Nat)]]) ∨ (c = 0 ∧ R = .tuple #[tv ⟨5, ⟨#[]⟩, 0, x⟩ (a : Nat), .int .i64 (tE : Int), .agg #[.int .i64 0, .int .i64 0]])) (w : World) :
    Calls Tryd.prog 16 #[.string s, .int .i64 a] w fun e w' => e = .returned R ∧ Below w.heap.size w w' := by
  have cd := rDigit_c
  have ch := rHex_c
  have cf := rFault_c 62 a
  simp only [tv, noTk] at cf
  have HS := hid hs
  have HK1 := hid hk1
  have HK2 := hid hK2
  have HE := hid hS
  have HW := hid ways
  have HP := hid hp
  have hN := Nx0.start w
  clear hk1 hS ways hp hK2
  have a0 : (0 : Int) ≤ (a : Int) := by omega
  have a1 : (a : Int) < (s.size : Int) := by omega
  have a2 : IntKind.i64.wrap ((a : Int) + 1) = (A1 : Int) := by rw [IntKind.wrap_i64]; omega
  have a3 : wrap64 ((a : Int) + 1) = (A1 : Int) := by unfold wrap64; omega
  have a4 : (0 : Int) ≤ (A1 : Int) := by omega
  have a5 : (A1 : Int) < (s.size : Int) := by omega
  have a6 : IntKind.i64.wrap ((a : Int) + 2) = (A2 : Int) := by rw [IntKind.wrap_i64]; omega
  have a7 : wrap64 ((a : Int) + 2) = (A2 : Int) := by unfold wrap64; omega
  have HA2 := hid (show a ≤ A2 ∧ A2 ≤ s.size by omega)
  clear hA1 hA2
  clear hs
  go_enter Tryd.func16, Tryd.ntmps16
  go_upto_region 1 with fail
  generalize World.alloc (World.alloc w _) _ = W at *
  have HN := hid hN
  clear hN
  go_wp2_with fail
  clear x0 x1 a2 a3 a6 a7
  go_loop [7] (fun i => ∃ k : Nat, i = .int .i64 k ∧ A2 ≤ k ∧ k ≤ s.size ∧ runN hexPB (s.data.toList.drop k) + k = k1) (fun i => s.size - (intOf i).toNat)
  case atStart => exact ⟨A2, rfl, Nat.le_refl _, HA2.out.2, HK1.out⟩
  case round =>
    obtain ⟨k, rfl, h1, h2, h3⟩ := hrel
    have e1 : IntKind.i64.wrap ((k : Int) + 1) = ((k + 1 : Nat) : Int) := by have := HS.out; rw [IntKind.wrap_i64]; omega
    have e2 : wrap64 ((k : Int) + 1) = ((k + 1 : Nat) : Int) := by have := HS.out; unfold wrap64; omega
    have c0 : (0 : Int) ≤ (k : Int) := Int.natCast_nonneg k
    rcases run_ways hexPB s k h3 h2 with ⟨c, b⟩ | ⟨ek, hx2⟩
    · have hd := drop_cons s k c
      have chk := ch s[k]
      have hw := (hexP_ways s[k]).1 b
      have c1 : (k : Int) < (s.size : Int) := by omega
      have fin := hid (show runN hexPB (s.data.toList.drop (k + 1)) + (k + 1) = k1 by rw [hd, runN_cons_t b] at h3; omega)
      have HH := hid (And.intro h1 c)
      clear h1 h2 h3 hd b
      generalize hexV s[k] = v at *
      rcases hw with hw | ⟨hw, hw2⟩
      all_goals (
        go_wp2_with (go_at_call 29; (with_reducible refine (chk _).mono ?_); rintro e w' ⟨rfl, rfl⟩)
        go_round
        case rel => exact ⟨k + 1, by go_num, by have := HH.out.1; omega, HH.out.2, fin.out⟩
        case measure => have := HH.out.2; simp [intOf]; omega)
    · subst ek
      have H1 := hid h1
      rcases hx2 with hx2 | ⟨hk, hb⟩
      · have ex : ¬ (k : Int) < (s.size : Int) := by omega
        rcases HP.out with ⟨et, _⟩ | ⟨h, _⟩
        · subst et
          have hS := HE.out
          have l1 : (a : Int) ≤ (tE : Int) := by have := HA2.out; omega
          have l2 : (tE : Int) ≤ (s.size : Int) := by omega
          clear hx2 h1 h2 h3 e1 e2 HP
          have hN := HN.out
          rcases HW.out with ⟨b1, hR⟩ | ⟨b1, hR⟩
          · have HR := hid hR
            clear hR HW
            go_wp2_with (first | (go_at_call 15; (with_reducible refine (cdk _).mono ?_); rintro e w' ⟨rfl, rfl⟩) | (go_at_call 29; (with_reducible refine (chk _).mono ?_); rintro e w' ⟨rfl, rfl⟩) | (go_at_call 27; (with_reducible refine (cp _).mono ?_); rintro e W2 ⟨rfl, hb⟩; (replace hN := hN.go hb); clear hb) | (go_at_call 19; (with_reducible refine (cf _).mono ?_); rintro e W2 ⟨rfl, hb⟩; (replace hN := hN.go hb); clear hb; (have k0 : W2.cell? ⟨w.heap.size, 0, none⟩ = some (.int .i64 0) := row_cellsX hN.h4 0); (have k1 : W2.cell? ⟨w.heap.size, 1, none⟩ = some (.int .i64 0) := row_cellsX hN.h4 1); (have k2 : W2.cell? ⟨w.heap.size, 2, none⟩ = some (.string ⟨#[]⟩) := row_cellsX hN.h4 2); (have k3 : W2.cell? ⟨w.heap.size, 3, none⟩ = some (.int .i64 0) := row_cellsX hN.h4 3); (have k4 : W2.cell? ⟨w.heap.size, 4, none⟩ = some (.int .u64 0) := row_cellsX hN.h4 4); (have k5 : W2.cell? ⟨w.heap.size + 1, 0, none⟩ = some (.int .i64 0) := row_cellsX hN.h6 0); (have k6 : W2.cell? ⟨w.heap.size + 1, 1, none⟩ = some (.int .i64 0) := row_cellsX hN.h6 1); (have z4 := row_thawX hN.h4); (have z6 := row_thawX hN.h6); (have HN2 := hid hN); clear hN))
            refine bodyPost_ret (nx_ret rfl _ _ w.heap.size (w.heap.size + 1) _ _ _ _ _ _ _ _ (0, 0) (0, 0) rfl rfl rfl (HN2.out.fin _ _ _ _ _ _ _).1 (HN2.out.fin _ _ _ _ _ _ _).2.1) rfl ?_
            exact ⟨by rw [HR.out]; rfl, (HN2.out.fin _ _ _ _ _ _ _).2.2⟩
          · have HR := hid hR
            subst b1
            clear hR HW
            go_wp2_with (first | (go_at_call 15; (with_reducible refine (cdk _).mono ?_); rintro e w' ⟨rfl, rfl⟩) | (go_at_call 29; (with_reducible refine (chk _).mono ?_); rintro e w' ⟨rfl, rfl⟩) | (go_at_call 27; (with_reducible refine (cp _).mono ?_); rintro e W2 ⟨rfl, hb⟩; (replace hN := hN.go hb); clear hb; (have k0 : W2.cell? ⟨w.heap.size, 0, none⟩ = some (.int .i64 0) := row_cellsX hN.h4 0); (have k1 : W2.cell? ⟨w.heap.size, 1, none⟩ = some (.int .i64 0) := row_cellsX hN.h4 1); (have k2 : W2.cell? ⟨w.heap.size, 2, none⟩ = some (.string ⟨#[]⟩) := row_cellsX hN.h4 2); (have k3 : W2.cell? ⟨w.heap.size, 3, none⟩ = some (.int .i64 0) := row_cellsX hN.h4 3); (have k4 : W2.cell? ⟨w.heap.size, 4, none⟩ = some (.int .u64 0) := row_cellsX hN.h4 4); (have k5 : W2.cell? ⟨w.heap.size + 1, 0, none⟩ = some (.int .i64 0) := row_cellsX hN.h6 0); (have k6 : W2.cell? ⟨w.heap.size + 1, 1, none⟩ = some (.int .i64 0) := row_cellsX hN.h6 1); (have z4 := row_thawX hN.h4); (have z6 := row_thawX hN.h6); (have HN2 := hid hN); clear hN))
            refine bodyPost_ret (nx_ret rfl _ _ w.heap.size (w.heap.size + 1) _ _ _ _ _ _ _ _ (0, 0) (0, 0) rfl rfl rfl (HN2.out.fin _ _ _ _ _ _ _).1 (HN2.out.fin _ _ _ _ _ _ _).2.1) rfl ?_
            exact ⟨by rw [HR.out]; rfl, (HN2.out.fin _ _ _ _ _ _ _).2.2⟩
        · exact absurd h hx2
      · have chk := ch s[k]
        obtain ⟨hw, hw2⟩ := (hexP_ways s[k]).2 hb
        have c1 : (k : Int) < (s.size : Int) := by omega
        generalize hexV s[k] = v at *
        rcases HP.out with ⟨et, hq⟩ | ⟨_, hq, k3, hle3, h3', hs3⟩
        · subst et
          have hS := HE.out
          have l1 : (a : Int) ≤ (tE : Int) := by have := HA2.out; omega
          have l2 : (tE : Int) ≤ (s.size : Int) := by omega
          have np : ((s[tE].toNat : Int) == 112) = false := by
            rcases hq with hq | ⟨_, hq⟩
            · exact absurd hk hq
            · exact hq
          clear hq h1 h2 h3 e1 e2 HP hb
          have hN := HN.out
          rcases HW.out with ⟨b1, hR⟩ | ⟨b1, hR⟩
          · have HR := hid hR
            clear hR HW
            go_wp2_with (first | (go_at_call 15; (with_reducible refine (cdk _).mono ?_); rintro e w' ⟨rfl, rfl⟩) | (go_at_call 29; (with_reducible refine (chk _).mono ?_); rintro e w' ⟨rfl, rfl⟩) | (go_at_call 27; (with_reducible refine (cp _).mono ?_); rintro e W2 ⟨rfl, hb⟩; (replace hN := hN.go hb); clear hb) | (go_at_call 19; (with_reducible refine (cf _).mono ?_); rintro e W2 ⟨rfl, hb⟩; (replace hN := hN.go hb); clear hb; (have k0 : W2.cell? ⟨w.heap.size, 0, none⟩ = some (.int .i64 0) := row_cellsX hN.h4 0); (have k1 : W2.cell? ⟨w.heap.size, 1, none⟩ = some (.int .i64 0) := row_cellsX hN.h4 1); (have k2 : W2.cell? ⟨w.heap.size, 2, none⟩ = some (.string ⟨#[]⟩) := row_cellsX hN.h4 2); (have k3 : W2.cell? ⟨w.heap.size, 3, none⟩ = some (.int .i64 0) := row_cellsX hN.h4 3); (have k4 : W2.cell? ⟨w.heap.size, 4, none⟩ = some (.int .u64 0) := row_cellsX hN.h4 4); (have k5 : W2.cell? ⟨w.heap.size + 1, 0, none⟩ = some (.int .i64 0) := row_cellsX hN.h6 0); (have k6 : W2.cell? ⟨w.heap.size + 1, 1, none⟩ = some (.int .i64 0) := row_cellsX hN.h6 1); (have z4 := row_thawX hN.h4); (have z6 := row_thawX hN.h6); (have HN2 := hid hN); clear hN))
            refine bodyPost_ret (nx_ret rfl _ _ w.heap.size (w.heap.size + 1) _ _ _ _ _ _ _ _ (0, 0) (0, 0) rfl rfl rfl (HN2.out.fin _ _ _ _ _ _ _).1 (HN2.out.fin _ _ _ _ _ _ _).2.1) rfl ?_
            exact ⟨by rw [HR.out]; rfl, (HN2.out.fin _ _ _ _ _ _ _).2.2⟩
          · have HR := hid hR
            subst b1
            clear hR HW
            go_wp2_with (first | (go_at_call 15; (with_reducible refine (cdk _).mono ?_); rintro e w' ⟨rfl, rfl⟩) | (go_at_call 29; (with_reducible refine (chk _).mono ?_); rintro e w' ⟨rfl, rfl⟩) | (go_at_call 27; (with_reducible refine (cp _).mono ?_); rintro e W2 ⟨rfl, hb⟩; (replace hN := hN.go hb); clear hb; (have k0 : W2.cell? ⟨w.heap.size, 0, none⟩ = some (.int .i64 0) := row_cellsX hN.h4 0); (have k1 : W2.cell? ⟨w.heap.size, 1, none⟩ = some (.int .i64 0) := row_cellsX hN.h4 1); (have k2 : W2.cell? ⟨w.heap.size, 2, none⟩ = some (.string ⟨#[]⟩) := row_cellsX hN.h4 2); (have k3 : W2.cell? ⟨w.heap.size, 3, none⟩ = some (.int .i64 0) := row_cellsX hN.h4 3); (have k4 : W2.cell? ⟨w.heap.size, 4, none⟩ = some (.int .u64 0) := row_cellsX hN.h4 4); (have k5 : W2.cell? ⟨w.heap.size + 1, 0, none⟩ = some (.int .i64 0) := row_cellsX hN.h6 0); (have k6 : W2.cell? ⟨w.heap.size + 1, 1, none⟩ = some (.int .i64 0) := row_cellsX hN.h6 1); (have z4 := row_thawX hN.h4); (have z6 := row_thawX hN.h6); (have HN2 := hid hN); clear hN))
            refine bodyPost_ret (nx_ret rfl _ _ w.heap.size (w.heap.size + 1) _ _ _ _ _ _ _ _ (0, 0) (0, 0) rfl rfl rfl (HN2.out.fin _ _ _ _ _ _ _).1 (HN2.out.fin _ _ _ _ _ _ _).2.1) rfl ?_
            exact ⟨by rw [HR.out]; rfl, (HN2.out.fin _ _ _ _ _ _ _).2.2⟩
        · have H3 := hid h3'
          have HS3 := hid hs3
          clear hs3
          have HK3 := hid (Nat.le_trans HA2.out.1 (Nat.le_trans h1 hle3))
          have p0 : (0 : Int) ≤ (K2 : Int) := Int.natCast_nonneg K2
          have hK2b : k ≤ s.size + 1 := Nat.le_succ_of_le h2
          have hK2c : K2 ≤ s.size + 1 := by rw [← HK2.out]; exact Nat.succ_le_succ h2
          obtain ⟨p2, p3⟩ := wrap_in HS.out hK2b HK2.out
          obtain ⟨p5, p4⟩ := wrap_in HS.out hK2c rfl
          clear hK2b hK2c e1 e2
          clear h1 h2 h3 HP hb h3' hle3
          rcases HS3.out with ⟨hk3, hl, hsg⟩ | ⟨hk3, hsg⟩
          · have HKK := hid hk3
            clear hk3
            have p1 : (K2 : Int) < (s.size : Int) := Int.ofNat_lt.2 hl
            rcases hsg with hsg | ⟨hsg, hsg2⟩
            all_goals (
              go_wp2_with (first | (go_at_call 15; (with_reducible refine (cdk _).mono ?_); rintro e w' ⟨rfl, rfl⟩) | (go_at_call 29; (with_reducible refine (chk _).mono ?_); rintro e w' ⟨rfl, rfl⟩))
              go_loop [7] (fun i => ∃ j : Nat, i = .int .i64 j ∧ k3 ≤ j ∧ j ≤ s.size ∧ runN digB (s.data.toList.drop j) + j = tE) (fun i => s.size - (intOf i).toNat)
              case atStart => exact ⟨k3, by first | (rw [HKK.out]; done) | (rw [HKK.out]; first | rfl | go_num), Nat.le_refl _, H3.out.2, H3.out.1⟩
              case round =>
                obtain ⟨j, rfl, g1, g2, g3⟩ := hrel
                obtain ⟨w1, w2⟩ := wrap_in HS.out (Nat.le_succ_of_le g2) (rfl : j + 1 = j + 1)
                rcases run_ways digB s j g3 g2 with ⟨c, b⟩ | ⟨ej, hx2⟩
                · have cdk := cd s[j]
                  rw [b] at cdk
                  have c1 : (j : Int) < (s.size : Int) := Int.ofNat_lt.2 c
                  have c0 : (0 : Int) ≤ (j : Int) := Int.natCast_nonneg j
                  have fin := hid (run_next digB s c b g3)
                  have HH := hid (And.intro g1 c)
                  clear g1 g2 g3 b
                  go_wp2_with (go_at_call 15; (with_reducible refine (cdk _).mono ?_); rintro e w' ⟨rfl, rfl⟩)
                  go_round
                  case rel => exact ⟨j + 1, by first | rfl | go_num, Nat.le_succ_of_le HH.out.1, HH.out.2, fin.out⟩
                  case measure => exact meas_up HH.out.2
                · subst ej
                  have hS := HE.out
                  have l1 : (a : Int) ≤ (j : Int) := Int.ofNat_le.2 (Nat.le_trans HK3.out g1)
                  have l2 : (j : Int) ≤ (s.size : Int) := Int.ofNat_le.2 g2
                  rcases hx2 with hx2 | ⟨hj, hb⟩
                  · have ex : ¬ (j : Int) < (s.size : Int) := fun q => hx2 (Int.ofNat_lt.1 q)
                    clear hx2 g1 g2 g3 w1 w2
                    have hN := HN.out
                    rcases HW.out with ⟨b1, hR⟩ | ⟨b1, hR⟩
                    · have HR := hid hR
                      clear hR HW
                      go_wp2_with (first | (go_at_call 15; (with_reducible refine (cdk _).mono ?_); rintro e w' ⟨rfl, rfl⟩) | (go_at_call 29; (with_reducible refine (chk _).mono ?_); rintro e w' ⟨rfl, rfl⟩) | (go_at_call 27; (with_reducible refine (cp _).mono ?_); rintro e W2 ⟨rfl, hb⟩; (replace hN := hN.go hb); clear hb) | (go_at_call 19; (with_reducible refine (cf _).mono ?_); rintro e W2 ⟨rfl, hb⟩; (replace hN := hN.go hb); clear hb; (have k0 : W2.cell? ⟨w.heap.size, 0, none⟩ = some (.int .i64 0) := row_cellsX hN.h4 0); (have k1 : W2.cell? ⟨w.heap.size, 1, none⟩ = some (.int .i64 0) := row_cellsX hN.h4 1); (have k2 : W2.cell? ⟨w.heap.size, 2, none⟩ = some (.string ⟨#[]⟩) := row_cellsX hN.h4 2); (have k3 : W2.cell? ⟨w.heap.size, 3, none⟩ = some (.int .i64 0) := row_cellsX hN.h4 3); (have k4 : W2.cell? ⟨w.heap.size, 4, none⟩ = some (.int .u64 0) := row_cellsX hN.h4 4); (have k5 : W2.cell? ⟨w.heap.size + 1, 0, none⟩ = some (.int .i64 0) := row_cellsX hN.h6 0); (have k6 : W2.cell? ⟨w.heap.size + 1, 1, none⟩ = some (.int .i64 0) := row_cellsX hN.h6 1); (have z4 := row_thawX hN.h4); (have z6 := row_thawX hN.h6); (have HN2 := hid hN); clear hN))
                      refine bodyPost_ret (nx_ret rfl _ _ w.heap.size (w.heap.size + 1) _ _ _ _ _ _ _ _ (0, 0) (0, 0) rfl rfl rfl (HN2.out.fin _ _ _ _ _ _ _).1 (HN2.out.fin _ _ _ _ _ _ _).2.1) rfl ?_
                      exact ⟨by rw [HR.out]; rfl, (HN2.out.fin _ _ _ _ _ _ _).2.2⟩
                    · have HR := hid hR
                      subst b1
                      clear hR HW
                      go_wp2_with (first | (go_at_call 15; (with_reducible refine (cdk _).mono ?_); rintro e w' ⟨rfl, rfl⟩) | (go_at_call 29; (with_reducible refine (chk _).mono ?_); rintro e w' ⟨rfl, rfl⟩) | (go_at_call 27; (with_reducible refine (cp _).mono ?_); rintro e W2 ⟨rfl, hb⟩; (replace hN := hN.go hb); clear hb; (have k0 : W2.cell? ⟨w.heap.size, 0, none⟩ = some (.int .i64 0) := row_cellsX hN.h4 0); (have k1 : W2.cell? ⟨w.heap.size, 1, none⟩ = some (.int .i64 0) := row_cellsX hN.h4 1); (have k2 : W2.cell? ⟨w.heap.size, 2, none⟩ = some (.string ⟨#[]⟩) := row_cellsX hN.h4 2); (have k3 : W2.cell? ⟨w.heap.size, 3, none⟩ = some (.int .i64 0) := row_cellsX hN.h4 3); (have k4 : W2.cell? ⟨w.heap.size, 4, none⟩ = some (.int .u64 0) := row_cellsX hN.h4 4); (have k5 : W2.cell? ⟨w.heap.size + 1, 0, none⟩ = some (.int .i64 0) := row_cellsX hN.h6 0); (have k6 : W2.cell? ⟨w.heap.size + 1, 1, none⟩ = some (.int .i64 0) := row_cellsX hN.h6 1); (have z4 := row_thawX hN.h4); (have z6 := row_thawX hN.h6); (have HN2 := hid hN); clear hN))
                      refine bodyPost_ret (nx_ret rfl _ _ w.heap.size (w.heap.size + 1) _ _ _ _ _ _ _ _ (0, 0) (0, 0) rfl rfl rfl (HN2.out.fin _ _ _ _ _ _ _).1 (HN2.out.fin _ _ _ _ _ _ _).2.1) rfl ?_
                      exact ⟨by rw [HR.out]; rfl, (HN2.out.fin _ _ _ _ _ _ _).2.2⟩
                  · have cdk := cd s[j]
                    rw [hb] at cdk
                    clear g1 g2 g3 w1 w2 hb
                    have hN := HN.out
                    rcases HW.out with ⟨b1, hR⟩ | ⟨b1, hR⟩
                    · have HR := hid hR
                      clear hR HW
                      go_wp2_with (first | (go_at_call 15; (with_reducible refine (cdk _).mono ?_); rintro e w' ⟨rfl, rfl⟩) | (go_at_call 29; (with_reducible refine (chk _).mono ?_); rintro e w' ⟨rfl, rfl⟩) | (go_at_call 27; (with_reducible refine (cp _).mono ?_); rintro e W2 ⟨rfl, hb⟩; (replace hN := hN.go hb); clear hb) | (go_at_call 19; (with_reducible refine (cf _).mono ?_); rintro e W2 ⟨rfl, hb⟩; (replace hN := hN.go hb); clear hb; (have k0 : W2.cell? ⟨w.heap.size, 0, none⟩ = some (.int .i64 0) := row_cellsX hN.h4 0); (have k1 : W2.cell? ⟨w.heap.size, 1, none⟩ = some (.int .i64 0) := row_cellsX hN.h4 1); (have k2 : W2.cell? ⟨w.heap.size, 2, none⟩ = some (.string ⟨#[]⟩) := row_cellsX hN.h4 2); (have k3 : W2.cell? ⟨w.heap.size, 3, none⟩ = some (.int .i64 0) := row_cellsX hN.h4 3); (have k4 : W2.cell? ⟨w.heap.size, 4, none⟩ = some (.int .u64 0) := row_cellsX hN.h4 4); (have k5 : W2.cell? ⟨w.heap.size + 1, 0, none⟩ = some (.int .i64 0) := row_cellsX hN.h6 0); (have k6 : W2.cell? ⟨w.heap.size + 1, 1, none⟩ = some (.int .i64 0) := row_cellsX hN.h6 1); (have z4 := row_thawX hN.h4); (have z6 := row_thawX hN.h6); (have HN2 := hid hN); clear hN))
                      refine bodyPost_ret (nx_ret rfl _ _ w.heap.size (w.heap.size + 1) _ _ _ _ _ _ _ _ (0, 0) (0, 0) rfl rfl rfl (HN2.out.fin _ _ _ _ _ _ _).1 (HN2.out.fin _ _ _ _ _ _ _).2.1) rfl ?_
                      exact ⟨by rw [HR.out]; rfl, (HN2.out.fin _ _ _ _ _ _ _).2.2⟩
                    · have HR := hid hR
                      subst b1
                      clear hR HW
                      go_wp2_with (first | (go_at_call 15; (with_reducible refine (cdk _).mono ?_); rintro e w' ⟨rfl, rfl⟩) | (go_at_call 29; (with_reducible refine (chk _).mono ?_); rintro e w' ⟨rfl, rfl⟩) | (go_at_call 27; (with_reducible refine (cp _).mono ?_); rintro e W2 ⟨rfl, hb⟩; (replace hN := hN.go hb); clear hb; (have k0 : W2.cell? ⟨w.heap.size, 0, none⟩ = some (.int .i64 0) := row_cellsX hN.h4 0); (have k1 : W2.cell? ⟨w.heap.size, 1, none⟩ = some (.int .i64 0) := row_cellsX hN.h4 1); (have k2 : W2.cell? ⟨w.heap.size, 2, none⟩ = some (.string ⟨#[]⟩) := row_cellsX hN.h4 2); (have k3 : W2.cell? ⟨w.heap.size, 3, none⟩ = some (.int .i64 0) := row_cellsX hN.h4 3); (have k4 : W2.cell? ⟨w.heap.size, 4, none⟩ = some (.int .u64 0) := row_cellsX hN.h4 4); (have k5 : W2.cell? ⟨w.heap.size + 1, 0, none⟩ = some (.int .i64 0) := row_cellsX hN.h6 0); (have k6 : W2.cell? ⟨w.heap.size + 1, 1, none⟩ = some (.int .i64 0) := row_cellsX hN.h6 1); (have z4 := row_thawX hN.h4); (have z6 := row_thawX hN.h6); (have HN2 := hid hN); clear hN))
                      refine bodyPost_ret (nx_ret rfl _ _ w.heap.size (w.heap.size + 1) _ _ _ _ _ _ _ _ (0, 0) (0, 0) rfl rfl rfl (HN2.out.fin _ _ _ _ _ _ _).1 (HN2.out.fin _ _ _ _ _ _ _).2.1) rfl ?_
                      exact ⟨by rw [HR.out]; rfl, (HN2.out.fin _ _ _ _ _ _ _).2.2⟩)
          · have HKK := hid hk3
            clear hk3
            rcases hsg with hsg | ⟨hl, hs1, hs2⟩
            · have p1 : ¬ (K2 : Int) < (s.size : Int) := fun q => hsg (Int.ofNat_lt.1 q)
              go_wp2_with (first | (go_at_call 15; (with_reducible refine (cdk _).mono ?_); rintro e w' ⟨rfl, rfl⟩) | (go_at_call 29; (with_reducible refine (chk _).mono ?_); rintro e w' ⟨rfl, rfl⟩))
              go_loop [7] (fun i => ∃ j : Nat, i = .int .i64 j ∧ k3 ≤ j ∧ j ≤ s.size ∧ runN digB (s.data.toList.drop j) + j = tE) (fun i => s.size - (intOf i).toNat)
              case atStart => exact ⟨k3, by first | (rw [HKK.out]; done) | (rw [HKK.out]; first | rfl | go_num), Nat.le_refl _, H3.out.2, H3.out.1⟩
              case round =>
                obtain ⟨j, rfl, g1, g2, g3⟩ := hrel
                obtain ⟨w1, w2⟩ := wrap_in HS.out (Nat.le_succ_of_le g2) (rfl : j + 1 = j + 1)
                rcases run_ways digB s j g3 g2 with ⟨c, b⟩ | ⟨ej, hx2⟩
                · have cdk := cd s[j]
                  rw [b] at cdk
                  have c1 : (j : Int) < (s.size : Int) := Int.ofNat_lt.2 c
                  have c0 : (0 : Int) ≤ (j : Int) := Int.natCast_nonneg j
                  have fin := hid (run_next digB s c b g3)
                  have HH := hid (And.intro g1 c)
                  clear g1 g2 g3 b
                  go_wp2_with (go_at_call 15; (with_reducible refine (cdk _).mono ?_); rintro e w' ⟨rfl, rfl⟩)
                  go_round
                  case rel => exact ⟨j + 1, by first | rfl | go_num, Nat.le_succ_of_le HH.out.1, HH.out.2, fin.out⟩
                  case measure => exact meas_up HH.out.2
                · subst ej
                  have hS := HE.out
                  have l1 : (a : Int) ≤ (j : Int) := Int.ofNat_le.2 (Nat.le_trans HK3.out g1)
                  have l2 : (j : Int) ≤ (s.size : Int) := Int.ofNat_le.2 g2
                  rcases hx2 with hx2 | ⟨hj, hb⟩
                  · have ex : ¬ (j : Int) < (s.size : Int) := fun q => hx2 (Int.ofNat_lt.1 q)
                    clear hx2 g1 g2 g3 w1 w2
                    have hN := HN.out
                    rcases HW.out with ⟨b1, hR⟩ | ⟨b1, hR⟩
                    · have HR := hid hR
                      clear hR HW
                      go_wp2_with (first | (go_at_call 15; (with_reducible refine (cdk _).mono ?_); rintro e w' ⟨rfl, rfl⟩) | (go_at_call 29; (with_reducible refine (chk _).mono ?_); rintro e w' ⟨rfl, rfl⟩) | (go_at_call 27; (with_reducible refine (cp _).mono ?_); rintro e W2 ⟨rfl, hb⟩; (replace hN := hN.go hb); clear hb) | (go_at_call 19; (with_reducible refine (cf _).mono ?_); rintro e W2 ⟨rfl, hb⟩; (replace hN := hN.go hb); clear hb; (have k0 : W2.cell? ⟨w.heap.size, 0, none⟩ = some (.int .i64 0) := row_cellsX hN.h4 0); (have k1 : W2.cell? ⟨w.heap.size, 1, none⟩ = some (.int .i64 0) := row_cellsX hN.h4 1); (have k2 : W2.cell? ⟨w.heap.size, 2, none⟩ = some (.string ⟨#[]⟩) := row_cellsX hN.h4 2); (have k3 : W2.cell? ⟨w.heap.size, 3, none⟩ = some (.int .i64 0) := row_cellsX hN.h4 3); (have k4 : W2.cell? ⟨w.heap.size, 4, none⟩ = some (.int .u64 0) := row_cellsX hN.h4 4); (have k5 : W2.cell? ⟨w.heap.size + 1, 0, none⟩ = some (.int .i64 0) := row_cellsX hN.h6 0); (have k6 : W2.cell? ⟨w.heap.size + 1, 1, none⟩ = some (.int .i64 0) := row_cellsX hN.h6 1); (have z4 := row_thawX hN.h4); (have z6 := row_thawX hN.h6); (have HN2 := hid hN); clear hN))
                      refine bodyPost_ret (nx_ret rfl _ _ w.heap.size (w.heap.size + 1) _ _ _ _ _ _ _ _ (0, 0) (0, 0) rfl rfl rfl (HN2.out.fin _ _ _ _ _ _ _).1 (HN2.out.fin _ _ _ _ _ _ _).2.1) rfl ?_
                      exact ⟨by rw [HR.out]; rfl, (HN2.out.fin _ _ _ _ _ _ _).2.2⟩
                    · have HR := hid hR
                      subst b1
                      clear hR HW
                      go_wp2_with (first | (go_at_call 15; (with_reducible refine (cdk _).mono ?_); rintro e w' ⟨rfl, rfl⟩) | (go_at_call 29; (with_reducible refine (chk _).mono ?_); rintro e w' ⟨rfl, rfl⟩) | (go_at_call 27; (with_reducible refine (cp _).mono ?_); rintro e W2 ⟨rfl, hb⟩; (replace hN := hN.go hb); clear hb; (have k0 : W2.cell? ⟨w.heap.size, 0, none⟩ = some (.int .i64 0) := row_cellsX hN.h4 0); (have k1 : W2.cell? ⟨w.heap.size, 1, none⟩ = some (.int .i64 0) := row_cellsX hN.h4 1); (have k2 : W2.cell? ⟨w.heap.size, 2, none⟩ = some (.string ⟨#[]⟩) := row_cellsX hN.h4 2); (have k3 : W2.cell? ⟨w.heap.size, 3, none⟩ = some (.int .i64 0) := row_cellsX hN.h4 3); (have k4 : W2.cell? ⟨w.heap.size, 4, none⟩ = some (.int .u64 0) := row_cellsX hN.h4 4); (have k5 : W2.cell? ⟨w.heap.size + 1, 0, none⟩ = some (.int .i64 0) := row_cellsX hN.h6 0); (have k6 : W2.cell? ⟨w.heap.size + 1, 1, none⟩ = some (.int .i64 0) := row_cellsX hN.h6 1); (have z4 := row_thawX hN.h4); (have z6 := row_thawX hN.h6); (have HN2 := hid hN); clear hN))
                      refine bodyPost_ret (nx_ret rfl _ _ w.heap.size (w.heap.size + 1) _ _ _ _ _ _ _ _ (0, 0) (0, 0) rfl rfl rfl (HN2.out.fin _ _ _ _ _ _ _).1 (HN2.out.fin _ _ _ _ _ _ _).2.1) rfl ?_
                      exact ⟨by rw [HR.out]; rfl, (HN2.out.fin _ _ _ _ _ _ _).2.2⟩
                  · have cdk := cd s[j]
                    rw [hb] at cdk
                    clear g1 g2 g3 w1 w2 hb
                    have hN := HN.out
                    rcases HW.out with ⟨b1, hR⟩ | ⟨b1, hR⟩
                    · have HR := hid hR
                      clear hR HW
                      go_wp2_with (first | (go_at_call 15; (with_reducible refine (cdk _).mono ?_); rintro e w' ⟨rfl, rfl⟩) | (go_at_call 29; (with_reducible refine (chk _).mono ?_); rintro e w' ⟨rfl, rfl⟩) | (go_at_call 27; (with_reducible refine (cp _).mono ?_); rintro e W2 ⟨rfl, hb⟩; (replace hN := hN.go hb); clear hb) | (go_at_call 19; (with_reducible refine (cf _).mono ?_); rintro e W2 ⟨rfl, hb⟩; (replace hN := hN.go hb); clear hb; (have k0 : W2.cell? ⟨w.heap.size, 0, none⟩ = some (.int .i64 0) := row_cellsX hN.h4 0); (have k1 : W2.cell? ⟨w.heap.size, 1, none⟩ = some (.int .i64 0) := row_cellsX hN.h4 1); (have k2 : W2.cell? ⟨w.heap.size, 2, none⟩ = some (.string ⟨#[]⟩) := row_cellsX hN.h4 2); (have k3 : W2.cell? ⟨w.heap.size, 3, none⟩ = some (.int .i64 0) := row_cellsX hN.h4 3); (have k4 : W2.cell? ⟨w.heap.size, 4, none⟩ = some (.int .u64 0) := row_cellsX hN.h4 4); (have k5 : W2.cell? ⟨w.heap.size + 1, 0, none⟩ = some (.int .i64 0) := row_cellsX hN.h6 0); (have k6 : W2.cell? ⟨w.heap.size + 1, 1, none⟩ = some (.int .i64 0) := row_cellsX hN.h6 1); (have z4 := row_thawX hN.h4); (have z6 := row_thawX hN.h6); (have HN2 := hid hN); clear hN))
                      refine bodyPost_ret (nx_ret rfl _ _ w.heap.size (w.heap.size + 1) _ _ _ _ _ _ _ _ (0, 0) (0, 0) rfl rfl rfl (HN2.out.fin _ _ _ _ _ _ _).1 (HN2.out.fin _ _ _ _ _ _ _).2.1) rfl ?_
                      exact ⟨by rw [HR.out]; rfl, (HN2.out.fin _ _ _ _ _ _ _).2.2⟩
                    · have HR := hid hR
                      subst b1
                      clear hR HW
                      go_wp2_with (first | (go_at_call 15; (with_reducible refine (cdk _).mono ?_); rintro e w' ⟨rfl, rfl⟩) | (go_at_call 29; (with_reducible refine (chk _).mono ?_); rintro e w' ⟨rfl, rfl⟩) | (go_at_call 27; (with_reducible refine (cp _).mono ?_); rintro e W2 ⟨rfl, hb⟩; (replace hN := hN.go hb); clear hb; (have k0 : W2.cell? ⟨w.heap.size, 0, none⟩ = some (.int .i64 0) := row_cellsX hN.h4 0); (have k1 : W2.cell? ⟨w.heap.size, 1, none⟩ = some (.int .i64 0) := row_cellsX hN.h4 1); (have k2 : W2.cell? ⟨w.heap.size, 2, none⟩ = some (.string ⟨#[]⟩) := row_cellsX hN.h4 2); (have k3 : W2.cell? ⟨w.heap.size, 3, none⟩ = some (.int .i64 0) := row_cellsX hN.h4 3); (have k4 : W2.cell? ⟨w.heap.size, 4, none⟩ = some (.int .u64 0) := row_cellsX hN.h4 4); (have k5 : W2.cell? ⟨w.heap.size + 1, 0, none⟩ = some (.int .i64 0) := row_cellsX hN.h6 0); (have k6 : W2.cell? ⟨w.heap.size + 1, 1, none⟩ = some (.int .i64 0) := row_cellsX hN.h6 1); (have z4 := row_thawX hN.h4); (have z6 := row_thawX hN.h6); (have HN2 := hid hN); clear hN))
                      refine bodyPost_ret (nx_ret rfl _ _ w.heap.size (w.heap.size + 1) _ _ _ _ _ _ _ _ (0, 0) (0, 0) rfl rfl rfl (HN2.out.fin _ _ _ _ _ _ _).1 (HN2.out.fin _ _ _ _ _ _ _).2.1) rfl ?_
                      exact ⟨by rw [HR.out]; rfl, (HN2.out.fin _ _ _ _ _ _ _).2.2⟩
            · have p1 : (K2 : Int) < (s.size : Int) := Int.ofNat_lt.2 hl
              go_wp2_with (first | (go_at_call 15; (with_reducible refine (cdk _).mono ?_); rintro e w' ⟨rfl, rfl⟩) | (go_at_call 29; (with_reducible refine (chk _).mono ?_); rintro e w' ⟨rfl, rfl⟩))
              go_loop [7] (fun i => ∃ j : Nat, i = .int .i64 j ∧ k3 ≤ j ∧ j ≤ s.size ∧ runN digB (s.data.toList.drop j) + j = tE) (fun i => s.size - (intOf i).toNat)
              case atStart => exact ⟨k3, by first | (rw [HKK.out]; done) | (rw [HKK.out]; first | rfl | go_num), Nat.le_refl _, H3.out.2, H3.out.1⟩
              case round =>
                obtain ⟨j, rfl, g1, g2, g3⟩ := hrel
                obtain ⟨w1, w2⟩ := wrap_in HS.out (Nat.le_succ_of_le g2) (rfl : j + 1 = j + 1)
                rcases run_ways digB s j g3 g2 with ⟨c, b⟩ | ⟨ej, hx2⟩
                · have cdk := cd s[j]
                  rw [b] at cdk
                  have c1 : (j : Int) < (s.size : Int) := Int.ofNat_lt.2 c
                  have c0 : (0 : Int) ≤ (j : Int) := Int.natCast_nonneg j
                  have fin := hid (run_next digB s c b g3)
                  have HH := hid (And.intro g1 c)
                  clear g1 g2 g3 b
                  go_wp2_with (go_at_call 15; (with_reducible refine (cdk _).mono ?_); rintro e w' ⟨rfl, rfl⟩)
                  go_round
                  case rel => exact ⟨j + 1, by first | rfl | go_num, Nat.le_succ_of_le HH.out.1, HH.out.2, fin.out⟩
                  case measure => exact meas_up HH.out.2
                · subst ej
                  have hS := HE.out
                  have l1 : (a : Int) ≤ (j : Int) := Int.ofNat_le.2 (Nat.le_trans HK3.out g1)
                  have l2 : (j : Int) ≤ (s.size : Int) := Int.ofNat_le.2 g2
                  rcases hx2 with hx2 | ⟨hj, hb⟩
                  · have ex : ¬ (j : Int) < (s.size : Int) := fun q => hx2 (Int.ofNat_lt.1 q)
                    clear hx2 g1 g2 g3 w1 w2
                    have hN := HN.out
                    rcases HW.out with ⟨b1, hR⟩ | ⟨b1, hR⟩
                    · have HR := hid hR
                      clear hR HW
                      go_wp2_with (first | (go_at_call 15; (with_reducible refine (cdk _).mono ?_); rintro e w' ⟨rfl, rfl⟩) | (go_at_call 29; (with_reducible refine (chk _).mono ?_); rintro e w' ⟨rfl, rfl⟩) | (go_at_call 27; (with_reducible refine (cp _).mono ?_); rintro e W2 ⟨rfl, hb⟩; (replace hN := hN.go hb); clear hb) | (go_at_call 19; (with_reducible refine (cf _).mono ?_); rintro e W2 ⟨rfl, hb⟩; (replace hN := hN.go hb); clear hb; (have k0 : W2.cell? ⟨w.heap.size, 0, none⟩ = some (.int .i64 0) := row_cellsX hN.h4 0); (have k1 : W2.cell? ⟨w.heap.size, 1, none⟩ = some (.int .i64 0) := row_cellsX hN.h4 1); (have k2 : W2.cell? ⟨w.heap.size, 2, none⟩ = some (.string ⟨#[]⟩) := row_cellsX hN.h4 2); (have k3 : W2.cell? ⟨w.heap.size, 3, none⟩ = some (.int .i64 0) := row_cellsX hN.h4 3); (have k4 : W2.cell? ⟨w.heap.size, 4, none⟩ = some (.int .u64 0) := row_cellsX hN.h4 4); (have k5 : W2.cell? ⟨w.heap.size + 1, 0, none⟩ = some (.int .i64 0) := row_cellsX hN.h6 0); (have k6 : W2.cell? ⟨w.heap.size + 1, 1, none⟩ = some (.int .i64 0) := row_cellsX hN.h6 1); (have z4 := row_thawX hN.h4); (have z6 := row_thawX hN.h6); (have HN2 := hid hN); clear hN))
                      refine bodyPost_ret (nx_ret rfl _ _ w.heap.size (w.heap.size + 1) _ _ _ _ _ _ _ _ (0, 0) (0, 0) rfl rfl rfl (HN2.out.fin _ _ _ _ _ _ _).1 (HN2.out.fin _ _ _ _ _ _ _).2.1) rfl ?_
                      exact ⟨by rw [HR.out]; rfl, (HN2.out.fin _ _ _ _ _ _ _).2.2⟩
                    · have HR := hid hR
                      subst b1
                      clear hR HW
                      go_wp2_with (first | (go_at_call 15; (with_reducible refine (cdk _).mono ?_); rintro e w' ⟨rfl, rfl⟩) | (go_at_call 29; (with_reducible refine (chk _).mono ?_); rintro e w' ⟨rfl, rfl⟩) | (go_at_call 27; (with_reducible refine (cp _).mono ?_); rintro e W2 ⟨rfl, hb⟩; (replace hN := hN.go hb); clear hb; (have k0 : W2.cell? ⟨w.heap.size, 0, none⟩ = some (.int .i64 0) := row_cellsX hN.h4 0); (have k1 : W2.cell? ⟨w.heap.size, 1, none⟩ = some (.int .i64 0) := row_cellsX hN.h4 1); (have k2 : W2.cell? ⟨w.heap.size, 2, none⟩ = some (.string ⟨#[]⟩) := row_cellsX hN.h4 2); (have k3 : W2.cell? ⟨w.heap.size, 3, none⟩ = some (.int .i64 0) := row_cellsX hN.h4 3); (have k4 : W2.cell? ⟨w.heap.size, 4, none⟩ = some (.int .u64 0) := row_cellsX hN.h4 4); (have k5 : W2.cell? ⟨w.heap.size + 1, 0, none⟩ = some (.int .i64 0) := row_cellsX hN.h6 0); (have k6 : W2.cell? ⟨w.heap.size + 1, 1, none⟩ = some (.int .i64 0) := row_cellsX hN.h6 1); (have z4 := row_thawX hN.h4); (have z6 := row_thawX hN.h6); (have HN2 := hid hN); clear hN))
                      refine bodyPost_ret (nx_ret rfl _ _ w.heap.size (w.heap.size + 1) _ _ _ _ _ _ _ _ (0, 0) (0, 0) rfl rfl rfl (HN2.out.fin _ _ _ _ _ _ _).1 (HN2.out.fin _ _ _ _ _ _ _).2.1) rfl ?_
                      exact ⟨by rw [HR.out]; rfl, (HN2.out.fin _ _ _ _ _ _ _).2.2⟩
                  · have cdk := cd s[j]
                    rw [hb] at cdk
                    clear g1 g2 g3 w1 w2 hb
                    have hN := HN.out
                    rcases HW.out with ⟨b1, hR⟩ | ⟨b1, hR⟩
                    · have HR := hid hR
                      clear hR HW
                      go_wp2_with (first | (go_at_call 15; (with_reducible refine (cdk _).mono ?_); rintro e w' ⟨rfl, rfl⟩) | (go_at_call 29; (with_reducible refine (chk _).mono ?_); rintro e w' ⟨rfl, rfl⟩) | (go_at_call 27; (with_reducible refine (cp _).mono ?_); rintro e W2 ⟨rfl, hb⟩; (replace hN := hN.go hb); clear hb) | (go_at_call 19; (with_reducible refine (cf _).mono ?_); rintro e W2 ⟨rfl, hb⟩; (replace hN := hN.go hb); clear hb; (have k0 : W2.cell? ⟨w.heap.size, 0, none⟩ = some (.int .i64 0) := row_cellsX hN.h4 0); (have k1 : W2.cell? ⟨w.heap.size, 1, none⟩ = some (.int .i64 0) := row_cellsX hN.h4 1); (have k2 : W2.cell? ⟨w.heap.size, 2, none⟩ = some (.string ⟨#[]⟩) := row_cellsX hN.h4 2); (have k3 : W2.cell? ⟨w.heap.size, 3, none⟩ = some (.int .i64 0) := row_cellsX hN.h4 3); (have k4 : W2.cell? ⟨w.heap.size, 4, none⟩ = some (.int .u64 0) := row_cellsX hN.h4 4); (have k5 : W2.cell? ⟨w.heap.size + 1, 0, none⟩ = some (.int .i64 0) := row_cellsX hN.h6 0); (have k6 : W2.cell? ⟨w.heap.size + 1, 1, none⟩ = some (.int .i64 0) := row_cellsX hN.h6 1); (have z4 := row_thawX hN.h4); (have z6 := row_thawX hN.h6); (have HN2 := hid hN); clear hN))
                      refine bodyPost_ret (nx_ret rfl _ _ w.heap.size (w.heap.size + 1) _ _ _ _ _ _ _ _ (0, 0) (0, 0) rfl rfl rfl (HN2.out.fin _ _ _ _ _ _ _).1 (HN2.out.fin _ _ _ _ _ _ _).2.1) rfl ?_
                      exact ⟨by rw [HR.out]; rfl, (HN2.out.fin _ _ _ _ _ _ _).2.2⟩
                    · have HR := hid hR
                      subst b1
                      clear hR HW
                      go_wp2_with (first | (go_at_call 15; (with_reducible refine (cdk _).mono ?_); rintro e w' ⟨rfl, rfl⟩) | (go_at_call 29; (with_reducible refine (chk _).mono ?_); rintro e w' ⟨rfl, rfl⟩) | (go_at_call 27; (with_reducible refine (cp _).mono ?_); rintro e W2 ⟨rfl, hb⟩; (replace hN := hN.go hb); clear hb; (have k0 : W2.cell? ⟨w.heap.size, 0, none⟩ = some (.int .i64 0) := row_cellsX hN.h4 0); (have k1 : W2.cell? ⟨w.heap.size, 1, none⟩ = some (.int .i64 0) := row_cellsX hN.h4 1); (have k2 : W2.cell? ⟨w.heap.size, 2, none⟩ = some (.string ⟨#[]⟩) := row_cellsX hN.h4 2); (have k3 : W2.cell? ⟨w.heap.size, 3, none⟩ = some (.int .i64 0) := row_cellsX hN.h4 3); (have k4 : W2.cell? ⟨w.heap.size, 4, none⟩ = some (.int .u64 0) := row_cellsX hN.h4 4); (have k5 : W2.cell? ⟨w.heap.size + 1, 0, none⟩ = some (.int .i64 0) := row_cellsX hN.h6 0); (have k6 : W2.cell? ⟨w.heap.size + 1, 1, none⟩ = some (.int .i64 0) := row_cellsX hN.h6 1); (have z4 := row_thawX hN.h4); (have z6 := row_thawX hN.h6); (have HN2 := hid hN); clear hN))
                      refine bodyPost_ret (nx_ret rfl _ _ w.heap.size (w.heap.size + 1) _ _ _ _ _ _ _ _ (0, 0) (0, 0) rfl rfl rfl (HN2.out.fin _ _ _ _ _ _ _).1 (HN2.out.fin _ _ _ _ _ _ _).2.1) rfl ?_
                      exact ⟨by rw [HR.out]; rfl, (HN2.out.fin _ _ _ _ _ _ _).2.2⟩
end Go.Proofs.YtdoojooepkdlhaaDoor.W
/- casketref11: a string that does not end; Next. -/
namespace Go.Proofs.YtdoojooepkdlhaaDoor.W
open Go.ChangeShapes Go.WideShapes Go.RowKit Go.Shelf
set_option linter.unusedVariables false
set_option linter.unusedSimpArgs false
set_option maxRecDepth 100000 in
set_option maxHeartbeats 1000000 in
theorem rText_end (s : ByteArray) (hs : s.size ≤ 1000000) (a : Nat) (ha : a + 1 = s.size) (w : World) :
    Calls Tryd.prog 17 #[.string s, .int .i64 a] w fun e w' => e = .returned (.tuple #[tv noTk 0, .int .i64 (a : Nat), .agg #[.int .i64 61, .int .i64 (a : Nat)]]) ∧ Below w.heap.size w w' := by
  have cf := rFault_c 61 a
  simp only [tv, noTk] at cf ⊢
  have hN := Nx0.start w
  have a2 : IntKind.i64.wrap ((a : Int) + 1) = ((a + 1 : Nat) : Int) := by rw [IntKind.wrap_i64]; omega
  have a3 : wrap64 ((a : Int) + 1) = ((a + 1 : Nat) : Int) := by unfold wrap64; omega
  have a4 : ¬ ((a + 1 : Nat) : Int) < (s.size : Int) := by omega
  clear hs ha
  go_enter Tryd.func17, Tryd.ntmps17
  go_upto_region 1 with fail
  generalize World.alloc (World.alloc w _) _ = W at *
  replace hN := hN.go ((Below.refl _ W).alloc (Nat.le_refl _) (.cells #[] 5))
  go_upto_region 2 with fail
  generalize World.alloc W _ = W3 at *
  go_wp2_with fail
  refine wp_loop_rounds 2 ?_
  rw [rounds_succ]
  go_wp2_with (go_at_call 19; (with_reducible refine (cf _).mono ?_); rintro e W2 ⟨rfl, hb⟩; (replace hN := hN.go hb); clear hb; (have k0 : W2.cell? ⟨w.heap.size, 0, none⟩ = some (.int .i64 0) := row_cellsX hN.h4 0); (have k1 : W2.cell? ⟨w.heap.size, 1, none⟩ = some (.int .i64 0) := row_cellsX hN.h4 1); (have k2 : W2.cell? ⟨w.heap.size, 2, none⟩ = some (.string ⟨#[]⟩) := row_cellsX hN.h4 2); (have k3 : W2.cell? ⟨w.heap.size, 3, none⟩ = some (.int .i64 0) := row_cellsX hN.h4 3); (have k4 : W2.cell? ⟨w.heap.size, 4, none⟩ = some (.int .u64 0) := row_cellsX hN.h4 4); (have k5 : W2.cell? ⟨w.heap.size + 1, 0, none⟩ = some (.int .i64 0) := row_cellsX hN.h6 0); (have k6 : W2.cell? ⟨w.heap.size + 1, 1, none⟩ = some (.int .i64 0) := row_cellsX hN.h6 1); (have z4 := row_thawX hN.h4); (have z6 := row_thawX hN.h6); (have HN2 := hid hN); clear hN)
  refine bodyPost_ret (nx_ret rfl _ _ w.heap.size (w.heap.size + 1) _ _ _ _ _ _ _ _ (0, 0) (0, 0) rfl rfl rfl (HN2.out.fin _ _ _ _ _ _ _).1 (HN2.out.fin _ _ _ _ _ _ _).2.1) rfl ?_
  exact ⟨rfl, (HN2.out.fin _ _ _ _ _ _ _).2.2⟩
/-- what begins where no gap does -/
def restP (r : List UInt8) : Pc := orPc (nameP r) (orPc (doubleP r) (orPc (wholeP r) (orPc (quotedP r) (markP r))))
def nextR (r : List UInt8) (a : Nat) : Value := if r = [] then .tuple #[tv endTk (a : Nat), .int .i64 (a : Nat), .agg #[.int .i64 0, .int .i64 0]] else nxR (restP r) a
theorem piece_rest (r : List UInt8) (h : NoGap r) : pieceP r = restP r := by
  unfold pieceP restP
  cases r with
  | nil => rfl
  | cons c r =>
    obtain ⟨h1, h2⟩ := h c rfl
    exact orPc_none (gap_none c r h1 h2)
theorem nx_form (p : Pc) (a : Nat) : ∃ t x to' c f, nxR p a = .tuple #[tv t x, .int .i64 to', .agg #[.int .i64 c, .int .i64 f]] := by
  unfold nxR
  split
  · exact ⟨_, _, _, _, _, rfl⟩
  · split
    · exact ⟨_, _, _, _, _, rfl⟩
    · exact ⟨_, _, _, _, _, rfl⟩
theorem not_name (c : UInt8) (r : List UInt8) (h : startB c = false) : nameP (c :: r) = noPc := by
  unfold nameP
  refine if_pos ?_
  cases hd : digB c
  · left
    exact runN_cons_f (by rw [name_start, h, hd]; rfl)
  · right; exact hd
theorem not_num (c : UInt8) (r : List UInt8) (h : digB c = false) : doubleP (c :: r) = noPc ∧ wholeP (c :: r) = noPc := by
  constructor
  · unfold doubleP
    refine if_neg ?_
    intro e
    have : c = 48 := by
      have := congrArg List.head? e
      simpa [hexT] using this
    subst this
    revert h; decide
  · unfold wholeP
    exact if_pos (runN_cons_f h)
theorem not_quote (c : UInt8) (r : List UInt8) (h : c ≠ 34) : quotedP (c :: r) = noPc := if_neg (fun e => h (by simpa using e))
theorem or_no (b : Pc) : orPc noPc b = b := rfl
theorem or_size {a b : Pc} (h : ¬ a.size = 0) : orPc a b = a := if_neg h
def marks2 : List (List UInt8) := [[61, 61], [33, 61], [60, 61], [62, 61], [60, 60], [62, 62], [47, 47], [46, 46]]
def marks1 : List (List UInt8) := [[43], [45], [42], [47], [37], [38], [124], [94], [126], [60], [62], [61], [40], [41], [123], [125], [91], [93], [44], [59], [58]]
theorem find_len (r : List UInt8) (n : Nat) (L : List (List UInt8)) (hL : ∀ m ∈ L, m.length = n) : L.find? (fun m => r.take m.length == m) = if r.take n ∈ L then some (r.take n) else none := by
  induction L with
  | nil => rfl
  | cons m L ih =>
    have hm := hL m (by simp)
    have ih' := ih (fun m h => hL m (by simp [h]))
    rw [List.find?_cons, hm]
    by_cases c : r.take n = m
    · rw [c]
      simp
    · have e : (r.take n == m) = false := by rw [beq_eq_false_iff_ne]; exact c
      rw [e, ih']
      simp [c]
theorem mark_form (r : List UInt8) : markP r = if r.take 2 ∈ marks2 then okPc ⟨3, bytesOf (r.take 2), 0, 0⟩ 2 else if r.take 1 ∈ marks1 then okPc ⟨3, bytesOf (r.take 1), 0, 0⟩ 1 else noPc := by
  have hm : marks = marks2 ++ marks1 := rfl
  have l2 : ∀ m ∈ marks2, m.length = 2 := by decide
  have l1 : ∀ m ∈ marks1, m.length = 1 := by decide
  unfold markP
  rw [hm, List.find?_append, find_len r 2 marks2 l2, find_len r 1 marks1 l1]
  by_cases c : r.take 2 ∈ marks2
  · rw [if_pos c, if_pos c]
    show okPc ⟨3, bytesOf (r.take 2), 0, 0⟩ (r.take 2).length = _
    rw [l2 _ c]
  · rw [if_neg c, if_neg c]
    by_cases d : r.take 1 ∈ marks1
    · rw [if_pos d, if_pos d]
      show okPc ⟨3, bytesOf (r.take 1), 0, 0⟩ (r.take 1).length = _
      rw [l1 _ d]
    · rw [if_neg d, if_neg d]
      rfl
theorem mem_two (l : List UInt8) (h : l.length = 2) : l ∈ marks ↔ l ∈ marks2 := by
  have hm : marks = marks2 ++ marks1 := rfl
  have l1 : ∀ m ∈ marks1, m.length = 1 := by decide
  rw [hm, List.mem_append]
  constructor
  · rintro (h1 | h1)
    · exact h1
    · have := l1 _ h1; omega
  · exact .inl
theorem mem_one (l : List UInt8) (h : l.length = 1) : l ∈ marks ↔ l ∈ marks1 := by
  have hm : marks = marks2 ++ marks1 := rfl
  have l2 : ∀ m ∈ marks2, m.length = 2 := by decide
  rw [hm, List.mem_append]
  constructor
  · rintro (h1 | h1)
    · have := l2 _ h1; omega
    · exact h1
  · exact .inr
theorem rest_start (c : UInt8) (r : List UInt8) (h : startB c = true) : restP (c :: r) = nameP (c :: r) := by
  unfold restP
  obtain ⟨d1, d2⟩ := start_dig c h
  refine or_size ?_
  unfold nameP
  rw [if_neg]
  · have : runN nameB (c :: r) ≠ 0 := by rw [runN_cons_t d2]; omega
    split
    · exact this
    · exact this
  · rintro (g | g)
    · rw [runN_cons_t d2] at g; omega
    · have : digB c = true := g
      rw [d1] at this; cases this
theorem rest_digit (c : UInt8) (r : List UInt8) (h : digB c = true) : restP (c :: r) = orPc (doubleP (c :: r)) (wholeP (c :: r)) := by
  have hs : startB c = false := by
    cases e : startB c
    · rfl
    · rw [(start_dig c e).1] at h; cases h
  have hw : ¬ (wholeP (c :: r)).size = 0 := by
    have sz : (wholeP (c :: r)).size = runN digB (c :: r) := by
      unfold wholeP
      split
      · rename_i g; rw [g]; rfl
      · split <;> rfl
    rw [sz, runN_cons_t h]; omega
  unfold restP
  rw [not_name c r hs, or_no, or_size hw]
theorem rest_quote (r : List UInt8) : restP (34 :: r) = quotedP (34 :: r) := by
  unfold restP
  rw [not_name 34 r (by decide), or_no, (not_num 34 r (by decide)).1, or_no, (not_num 34 r (by decide)).2, or_no]
  refine or_size ?_
  have e : quotedP (34 :: r) = quoteGo (34 :: r).length r 1 [] := by unfold quotedP; rw [if_pos (show (34 :: r).head? = some 34 from rfl)]; rfl
  rw [e]
  have := quote_ge (34 :: r).length r 1 []
  omega
theorem rest_mark (c : UInt8) (r : List UInt8) (h1 : startB c = false) (h2 : digB c = false) (h3 : c ≠ 34) : restP (c :: r) = markP (c :: r) := by
  unfold restP
  rw [not_name c r h1, or_no, (not_num c r h2).1, or_no, (not_num c r h2).2, or_no, not_quote c r h3, or_no]
set_option maxRecDepth 100000 in
set_option maxHeartbeats 1000000 in
theorem rNext_c (s : ByteArray) (hs : s.size ≤ 1000000) (a : Nat) (ha : a ≤ s.size) (cn : ∀ h : a < s.size, digB s[a] = true → ∀ w, Calls Tryd.prog 16 #[.string s, .int .i64 a] w fun e w' => e = .returned (nxR (orPc (doubleP (s.data.toList.drop a)) (wholeP (s.data.toList.drop a))) a) ∧ Below w.heap.size w w')
    (cq : ∀ h : a < s.size, s[a].toNat = 34 → ∀ w, Calls Tryd.prog 17 #[.string s, .int .i64 a] w fun e w' => e = .returned (nxR (quotedP (s.data.toList.drop a)) a) ∧ Below w.heap.size w w') (w : World) :
    Calls Tryd.prog 10 #[.string s, .int .i64 a] w fun e w' => e = .returned (nextR (s.data.toList.drop a) a) ∧ Below w.heap.size w w' := by
  have hN := Nx0.start w
  by_cases ea : a = s.size
  · have e1 : (a : Int) = (s.size : Int) := by omega
    have er : nextR (s.data.toList.drop a) a = .tuple #[tv endTk (a : Nat), .int .i64 (a : Nat), .agg #[.int .i64 0, .int .i64 0]] := if_pos (List.drop_eq_nil_of_le (by rw [size_list]; omega))
    rw [er]
    simp only [tv, endTk]
    clear cn cq er hs ha
    have e2 : ((a : Int) == (s.size : Int)) = true := by simp [e1]
    clear e1 ea
    go_enter Tryd.func10, Tryd.ntmps10
    go_upto_region 1 with fail
    generalize World.alloc (World.alloc w _) _ = W at *
    have HN2 := hid hN
    have k0 : W.cell? ⟨w.heap.size, 0, none⟩ = some (.int .i64 0) := row_cellsX hN.h4 0; have k1 : W.cell? ⟨w.heap.size, 1, none⟩ = some (.int .i64 0) := row_cellsX hN.h4 1; have k2 : W.cell? ⟨w.heap.size, 2, none⟩ = some (.string ⟨#[]⟩) := row_cellsX hN.h4 2; have k3 : W.cell? ⟨w.heap.size, 3, none⟩ = some (.int .i64 0) := row_cellsX hN.h4 3; have k4 : W.cell? ⟨w.heap.size, 4, none⟩ = some (.int .u64 0) := row_cellsX hN.h4 4; have k5 : W.cell? ⟨w.heap.size + 1, 0, none⟩ = some (.int .i64 0) := row_cellsX hN.h6 0; have k6 : W.cell? ⟨w.heap.size + 1, 1, none⟩ = some (.int .i64 0) := row_cellsX hN.h6 1; have z4 := row_thawX hN.h4; have z6 := row_thawX hN.h6
    clear hN
    go_wp2
    refine bodyPost_ret (nx_ret rfl _ _ w.heap.size (w.heap.size + 1) _ _ _ _ _ _ _ _ (0, 0) (0, 0) rfl rfl rfl (HN2.out.fin _ _ _ _ _ _ _).1 (HN2.out.fin _ _ _ _ _ _ _).2.1) rfl ?_
    exact ⟨rfl, (HN2.out.fin _ _ _ _ _ _ _).2.2⟩
  · have hlt : a < s.size := by omega
    have hd := drop_cons s a hlt
    have a0 : (0 : Int) ≤ (a : Int) := by omega
    have a1 : (a : Int) < (s.size : Int) := by omega
    have a2 : ((a : Int) == (s.size : Int)) = false := by simp; omega
    have er : nextR (s.data.toList.drop a) a = nxR (restP (s.data.toList.drop a)) a := if_neg (by rw [hd]; simp)
    rw [er]
    have cs := rStarts_c s[a]
    have cd := rDigit_c s[a]
    by_cases b1 : startB s[a] = true
    · have hr := rest_start s[a] (s.data.toList.drop (a + 1)) b1
      rw [← hd] at hr
      rw [hr]
      have cm := fun w => rName_c s hs a hlt b1 w
      obtain ⟨t, x, y, c, f, hf⟩ := nx_form (nameP (s.data.toList.drop a)) a
      rw [hf] at cm ⊢
      rw [b1] at cs
      simp only [tv] at cm ⊢
      clear cn cq er hs ha hd hr hf ea cd b1
      go_enter Tryd.func10, Tryd.ntmps10
      go_upto_region 1 with fail
      generalize World.alloc (World.alloc w _) _ = W at *
      go_wp2_with (first | (go_at_call 13; (with_reducible refine (cs _).mono ?_); rintro e w' ⟨rfl, rfl⟩) | (go_at_call 14; (with_reducible refine (cm _).mono ?_); rintro e W2 ⟨rfl, hb⟩; (replace hN := hN.go hb); clear hb; (have k0 : W2.cell? ⟨w.heap.size, 0, none⟩ = some (.int .i64 0) := row_cellsX hN.h4 0); (have k1 : W2.cell? ⟨w.heap.size, 1, none⟩ = some (.int .i64 0) := row_cellsX hN.h4 1); (have k2 : W2.cell? ⟨w.heap.size, 2, none⟩ = some (.string ⟨#[]⟩) := row_cellsX hN.h4 2); (have k3 : W2.cell? ⟨w.heap.size, 3, none⟩ = some (.int .i64 0) := row_cellsX hN.h4 3); (have k4 : W2.cell? ⟨w.heap.size, 4, none⟩ = some (.int .u64 0) := row_cellsX hN.h4 4); (have k5 : W2.cell? ⟨w.heap.size + 1, 0, none⟩ = some (.int .i64 0) := row_cellsX hN.h6 0); (have k6 : W2.cell? ⟨w.heap.size + 1, 1, none⟩ = some (.int .i64 0) := row_cellsX hN.h6 1); (have z4 := row_thawX hN.h4); (have z6 := row_thawX hN.h6); (have HN2 := hid hN); clear hN))
      refine bodyPost_ret (nx_ret rfl _ _ w.heap.size (w.heap.size + 1) _ _ _ _ _ _ _ _ (0, 0) (0, 0) rfl rfl rfl (HN2.out.fin _ _ _ _ _ _ _).1 (HN2.out.fin _ _ _ _ _ _ _).2.1) rfl ?_
      exact ⟨rfl, (HN2.out.fin _ _ _ _ _ _ _).2.2⟩
    · have b1' : startB s[a] = false := by simpa using b1
      rw [b1'] at cs
      by_cases b2 : digB s[a] = true
      · have hr := rest_digit s[a] (s.data.toList.drop (a + 1)) b2
        rw [← hd] at hr
        rw [hr]
        have cm := cn hlt b2
        obtain ⟨t, x, y, c, f, hf⟩ := nx_form (orPc (doubleP (s.data.toList.drop a)) (wholeP (s.data.toList.drop a))) a
        rw [hf] at cm ⊢
        rw [b2] at cd
        simp only [tv] at cm ⊢
        clear cn cq er hs ha hd hr hf ea b1 b1' b2
        go_enter Tryd.func10, Tryd.ntmps10
        go_upto_region 1 with fail
        generalize World.alloc (World.alloc w _) _ = W at *
        go_wp2_with (first | (go_at_call 13; (with_reducible refine (cs _).mono ?_); rintro e w' ⟨rfl, rfl⟩) | (go_at_call 15; (with_reducible refine (cd _).mono ?_); rintro e w' ⟨rfl, rfl⟩) | (go_at_call 16; (with_reducible refine (cm _).mono ?_); rintro e W2 ⟨rfl, hb⟩; (replace hN := hN.go hb); clear hb; (have k0 : W2.cell? ⟨w.heap.size, 0, none⟩ = some (.int .i64 0) := row_cellsX hN.h4 0); (have k1 : W2.cell? ⟨w.heap.size, 1, none⟩ = some (.int .i64 0) := row_cellsX hN.h4 1); (have k2 : W2.cell? ⟨w.heap.size, 2, none⟩ = some (.string ⟨#[]⟩) := row_cellsX hN.h4 2); (have k3 : W2.cell? ⟨w.heap.size, 3, none⟩ = some (.int .i64 0) := row_cellsX hN.h4 3); (have k4 : W2.cell? ⟨w.heap.size, 4, none⟩ = some (.int .u64 0) := row_cellsX hN.h4 4); (have k5 : W2.cell? ⟨w.heap.size + 1, 0, none⟩ = some (.int .i64 0) := row_cellsX hN.h6 0); (have k6 : W2.cell? ⟨w.heap.size + 1, 1, none⟩ = some (.int .i64 0) := row_cellsX hN.h6 1); (have z4 := row_thawX hN.h4); (have z6 := row_thawX hN.h6); (have HN2 := hid hN); clear hN))
        refine bodyPost_ret (nx_ret rfl _ _ w.heap.size (w.heap.size + 1) _ _ _ _ _ _ _ _ (0, 0) (0, 0) rfl rfl rfl (HN2.out.fin _ _ _ _ _ _ _).1 (HN2.out.fin _ _ _ _ _ _ _).2.1) rfl ?_
        exact ⟨rfl, (HN2.out.fin _ _ _ _ _ _ _).2.2⟩
      · have b2' : digB s[a] = false := by simpa using b2
        rw [b2'] at cd
        by_cases b3 : s[a].toNat = 34
        · have hc : s[a] = 34 := u8_is b3
          have hr := rest_quote (s.data.toList.drop (a + 1))
          rw [← hc, ← hd] at hr
          rw [hr]
          have cm := cq hlt b3
          obtain ⟨t, x, y, c, f, hf⟩ := nx_form (quotedP (s.data.toList.drop a)) a
          rw [hf] at cm ⊢
          simp only [tv] at cm ⊢
          have q3 : ((s[a].toNat : Int) == 34) = true := by simp; omega
          clear cn cq er hs ha hd hr hf ea b1 b1' b2 b2' hc b3
          go_enter Tryd.func10, Tryd.ntmps10
          go_upto_region 1 with fail
          generalize World.alloc (World.alloc w _) _ = W at *
          go_wp2_with (first | (go_at_call 13; (with_reducible refine (cs _).mono ?_); rintro e w' ⟨rfl, rfl⟩) | (go_at_call 15; (with_reducible refine (cd _).mono ?_); rintro e w' ⟨rfl, rfl⟩) | (go_at_call 17; (with_reducible refine (cm _).mono ?_); rintro e W2 ⟨rfl, hb⟩; (replace hN := hN.go hb); clear hb; (have k0 : W2.cell? ⟨w.heap.size, 0, none⟩ = some (.int .i64 0) := row_cellsX hN.h4 0); (have k1 : W2.cell? ⟨w.heap.size, 1, none⟩ = some (.int .i64 0) := row_cellsX hN.h4 1); (have k2 : W2.cell? ⟨w.heap.size, 2, none⟩ = some (.string ⟨#[]⟩) := row_cellsX hN.h4 2); (have k3 : W2.cell? ⟨w.heap.size, 3, none⟩ = some (.int .i64 0) := row_cellsX hN.h4 3); (have k4 : W2.cell? ⟨w.heap.size, 4, none⟩ = some (.int .u64 0) := row_cellsX hN.h4 4); (have k5 : W2.cell? ⟨w.heap.size + 1, 0, none⟩ = some (.int .i64 0) := row_cellsX hN.h6 0); (have k6 : W2.cell? ⟨w.heap.size + 1, 1, none⟩ = some (.int .i64 0) := row_cellsX hN.h6 1); (have z4 := row_thawX hN.h4); (have z6 := row_thawX hN.h6); (have HN2 := hid hN); clear hN))
          refine bodyPost_ret (nx_ret rfl _ _ w.heap.size (w.heap.size + 1) _ _ _ _ _ _ _ _ (0, 0) (0, 0) rfl rfl rfl (HN2.out.fin _ _ _ _ _ _ _).1 (HN2.out.fin _ _ _ _ _ _ _).2.1) rfl ?_
          exact ⟨rfl, (HN2.out.fin _ _ _ _ _ _ _).2.2⟩
        · have hr := rest_mark s[a] (s.data.toList.drop (a + 1)) b1' b2' (fun e => b3 (by rw [e]; rfl))
          rw [← hd, mark_form] at hr
          rw [hr]
          have q3 : ((s[a].toNat : Int) == 34) = false := by simp; omega
          obtain ⟨S1, hS1⟩ : ∃ S1, s.extract a (a + 1) = S1 := ⟨_, rfl⟩
          obtain ⟨S2, hS2⟩ : ∃ S2, s.extract a (a + 2) = S2 := ⟨_, rfl⟩
          have t1 : S1.data.toList = (s.data.toList.drop a).take 1 := by rw [← hS1]; exact ext_take s a 1
          have t2 : S2.data.toList = (s.data.toList.drop a).take 2 := by rw [← hS2]; exact ext_take s a 2
          have z1 : S1.data.toList.length = 1 := by rw [t1, List.length_take, List.length_drop, size_list]; omega
          have z2 : a + 2 ≤ s.size → S2.data.toList.length = 2 := fun h => by rw [t2, List.length_take, List.length_drop, size_list]; omega
          have y2 : ¬ a + 2 ≤ s.size → (s.data.toList.drop a).take 2 ∉ marks2 := by
            intro h hm
            have : ((s.data.toList.drop a).take 2).length = 2 := (show ∀ m ∈ marks2, m.length = 2 by decide) _ hm
            rw [List.length_take, List.length_drop, size_list] at this
            omega
          have cm1 := fun w => rMark_c S1 w
          have cm2 := fun w => rMark_c S2 w
          have cf := rFault_c 60 a
          simp only [tv, noTk] at cf
          have w1 : IntKind.i64.wrap ((a : Int) + 1) = ((a + 1 : Nat) : Int) := by rw [IntKind.wrap_i64]; omega
          have w2 : wrap64 ((a : Int) + 1) = ((a + 1 : Nat) : Int) := by unfold wrap64; omega
          have w3 : IntKind.i64.wrap ((a : Int) + 2) = ((a + 2 : Nat) : Int) := by rw [IntKind.wrap_i64]; omega
          have w4 : wrap64 ((a : Int) + 2) = ((a + 2 : Nat) : Int) := by unfold wrap64; omega
          have v1 : (a : Int) ≤ ((a + 1 : Nat) : Int) := by omega
          have v2 : (a : Int) ≤ ((a + 2 : Nat) : Int) := by omega
          have v3 : ((a + 1 : Nat) : Int) ≤ (s.size : Int) := by omega
          have two : (((a + 2 : Nat) : Int) ≤ (s.size : Int) ∧ (∀ w, Calls Tryd.prog 18 #[.string S2] w fun e w' => e = .returned (.bool true) ∧ w' = w) ∧ (s.data.toList.drop a).take 2 ∈ marks2) ∨ ((((a + 2 : Nat) : Int) ≤ (s.size : Int) ∧ (∀ w, Calls Tryd.prog 18 #[.string S2] w fun e w' => e = .returned (.bool false) ∧ w' = w)) ∨ ¬ ((a + 2 : Nat) : Int) ≤ (s.size : Int)) ∧ (s.data.toList.drop a).take 2 ∉ marks2 := by
            by_cases h : a + 2 ≤ s.size
            · have e := mem_two S2.data.toList (z2 h)
              by_cases g : S2.data.toList ∈ marks2
              · left
                refine ⟨by omega, fun w => ?_, by rw [← t2]; exact g⟩
                have := cm2 w
                rw [decide_eq_true (e.2 g)] at this
                exact this
              · right
                refine ⟨.inl ⟨by omega, fun w => ?_⟩, by rw [← t2]; exact g⟩
                have := cm2 w
                rw [decide_eq_false (fun k => g (e.1 k))] at this
                exact this
            · right
              exact ⟨.inr (by omega), y2 h⟩
          have one : ((∀ w, Calls Tryd.prog 18 #[.string S1] w fun e w' => e = .returned (.bool true) ∧ w' = w) ∧ (s.data.toList.drop a).take 1 ∈ marks1) ∨ ((∀ w, Calls Tryd.prog 18 #[.string S1] w fun e w' => e = .returned (.bool false) ∧ w' = w) ∧ (s.data.toList.drop a).take 1 ∉ marks1) := by
            have e := mem_one S1.data.toList z1
            by_cases g : S1.data.toList ∈ marks1
            · left
              refine ⟨fun w => ?_, by rw [← t1]; exact g⟩
              have := cm1 w
              rw [decide_eq_true (e.2 g)] at this
              exact this
            · right
              refine ⟨fun w => ?_, by rw [← t1]; exact g⟩
              have := cm1 w
              rw [decide_eq_false (fun k => g (e.1 k))] at this
              exact this
          have eb1 : bytesOf ((s.data.toList.drop a).take 1) = S1 := by rw [← t1, bytes_self]
          have eb2 : bytesOf ((s.data.toList.drop a).take 2) = S2 := by rw [← t2, bytes_self]
          rw [eb1, eb2]
          clear cn cq er hs ha hd hr ea b1 b1' b2 b2' b3 t1 t2 z1 z2 y2 cm1 cm2 eb1 eb2
          have v4 : a + 1 ≤ s.size := by omega
          obtain ⟨E1, hE1⟩ : ∃ E1, a + 1 = E1 := ⟨_, rfl⟩
          obtain ⟨E2, hE2⟩ : ∃ E2, a + 2 = E2 := ⟨_, rfl⟩
          rw [hE1] at hS1 w1 w2 v1 v3 v4
          rw [hE2] at hS2 w3 w4 v2 two
          have HE1 := hid hE1
          have HE2 := hid hE2
          clear hE1 hE2
          rcases two with ⟨u1, c2, u2⟩ | ⟨u1, u2⟩
          · have u4 : E2 ≤ s.size := by omega
            rw [if_pos u2, nx_ok _ 2 a (by decide), HE2.out]
            simp only [tv]
            clear u2 one
            go_enter Tryd.func10, Tryd.ntmps10
            go_upto_region 1 with fail
            generalize World.alloc (World.alloc w _) _ = W at *
            have HN2 := hid hN
            have k0 : W.cell? ⟨w.heap.size, 0, none⟩ = some (.int .i64 0) := row_cellsX hN.h4 0; have k1 : W.cell? ⟨w.heap.size, 1, none⟩ = some (.int .i64 0) := row_cellsX hN.h4 1; have k2 : W.cell? ⟨w.heap.size, 2, none⟩ = some (.string ⟨#[]⟩) := row_cellsX hN.h4 2; have k3 : W.cell? ⟨w.heap.size, 3, none⟩ = some (.int .i64 0) := row_cellsX hN.h4 3; have k4 : W.cell? ⟨w.heap.size, 4, none⟩ = some (.int .u64 0) := row_cellsX hN.h4 4; have k5 : W.cell? ⟨w.heap.size + 1, 0, none⟩ = some (.int .i64 0) := row_cellsX hN.h6 0; have k6 : W.cell? ⟨w.heap.size + 1, 1, none⟩ = some (.int .i64 0) := row_cellsX hN.h6 1; have z4 := row_thawX hN.h4; have z6 := row_thawX hN.h6
            clear hN
            go_wp2_with (first | (go_at_call 13; (with_reducible refine (cs _).mono ?_); rintro e w' ⟨rfl, rfl⟩) | (go_at_call 15; (with_reducible refine (cd _).mono ?_); rintro e w' ⟨rfl, rfl⟩))
            refine wp_loop_rounds 3 ?_
            rw [rounds_succ]
            go_wp2_with (go_at_call 18; (with_reducible refine (c2 _).mono ?_); rintro e w' ⟨rfl, rfl⟩)
            refine bodyPost_ret (nx_ret rfl _ _ w.heap.size (w.heap.size + 1) _ _ _ _ _ _ _ _ (0, 0) (0, 0) rfl rfl rfl (HN2.out.fin _ _ _ _ _ _ _).1 (HN2.out.fin _ _ _ _ _ _ _).2.1) rfl ?_
            exact ⟨rfl, (HN2.out.fin _ _ _ _ _ _ _).2.2⟩
          · rw [if_neg u2]
            clear u2
            rcases one with ⟨c1, u3⟩ | ⟨c1, u3⟩
            · rw [if_pos u3, nx_ok _ 1 a (by decide), HE1.out]
              simp only [tv]
              clear u3
              rcases u1 with ⟨u1, c2⟩ | u1
              · have u4 : E2 ≤ s.size := by omega
                go_enter Tryd.func10, Tryd.ntmps10
                go_upto_region 1 with fail
                generalize World.alloc (World.alloc w _) _ = W at *
                have HN2 := hid hN
                have k0 : W.cell? ⟨w.heap.size, 0, none⟩ = some (.int .i64 0) := row_cellsX hN.h4 0; have k1 : W.cell? ⟨w.heap.size, 1, none⟩ = some (.int .i64 0) := row_cellsX hN.h4 1; have k2 : W.cell? ⟨w.heap.size, 2, none⟩ = some (.string ⟨#[]⟩) := row_cellsX hN.h4 2; have k3 : W.cell? ⟨w.heap.size, 3, none⟩ = some (.int .i64 0) := row_cellsX hN.h4 3; have k4 : W.cell? ⟨w.heap.size, 4, none⟩ = some (.int .u64 0) := row_cellsX hN.h4 4; have k5 : W.cell? ⟨w.heap.size + 1, 0, none⟩ = some (.int .i64 0) := row_cellsX hN.h6 0; have k6 : W.cell? ⟨w.heap.size + 1, 1, none⟩ = some (.int .i64 0) := row_cellsX hN.h6 1; have z4 := row_thawX hN.h4; have z6 := row_thawX hN.h6
                clear hN
                go_wp2_with (first | (go_at_call 13; (with_reducible refine (cs _).mono ?_); rintro e w' ⟨rfl, rfl⟩) | (go_at_call 15; (with_reducible refine (cd _).mono ?_); rintro e w' ⟨rfl, rfl⟩))
                refine wp_loop_rounds 3 ?_
                rw [rounds_succ]
                go_wp2_with (go_at_call 18; (with_reducible refine (c2 _).mono ?_); rintro e w' ⟨rfl, rfl⟩)
                rw [rounds_succ]
                go_wp2_with (go_at_call 18; (with_reducible refine (c1 _).mono ?_); rintro e w' ⟨rfl, rfl⟩)
                refine bodyPost_ret (nx_ret rfl _ _ w.heap.size (w.heap.size + 1) _ _ _ _ _ _ _ _ (0, 0) (0, 0) rfl rfl rfl (HN2.out.fin _ _ _ _ _ _ _).1 (HN2.out.fin _ _ _ _ _ _ _).2.1) rfl ?_
                exact ⟨rfl, (HN2.out.fin _ _ _ _ _ _ _).2.2⟩
              · have u4 : ¬ E2 ≤ s.size := by omega
                go_enter Tryd.func10, Tryd.ntmps10
                go_upto_region 1 with fail
                generalize World.alloc (World.alloc w _) _ = W at *
                have HN2 := hid hN
                have k0 : W.cell? ⟨w.heap.size, 0, none⟩ = some (.int .i64 0) := row_cellsX hN.h4 0; have k1 : W.cell? ⟨w.heap.size, 1, none⟩ = some (.int .i64 0) := row_cellsX hN.h4 1; have k2 : W.cell? ⟨w.heap.size, 2, none⟩ = some (.string ⟨#[]⟩) := row_cellsX hN.h4 2; have k3 : W.cell? ⟨w.heap.size, 3, none⟩ = some (.int .i64 0) := row_cellsX hN.h4 3; have k4 : W.cell? ⟨w.heap.size, 4, none⟩ = some (.int .u64 0) := row_cellsX hN.h4 4; have k5 : W.cell? ⟨w.heap.size + 1, 0, none⟩ = some (.int .i64 0) := row_cellsX hN.h6 0; have k6 : W.cell? ⟨w.heap.size + 1, 1, none⟩ = some (.int .i64 0) := row_cellsX hN.h6 1; have z4 := row_thawX hN.h4; have z6 := row_thawX hN.h6
                clear hN
                go_wp2_with (first | (go_at_call 13; (with_reducible refine (cs _).mono ?_); rintro e w' ⟨rfl, rfl⟩) | (go_at_call 15; (with_reducible refine (cd _).mono ?_); rintro e w' ⟨rfl, rfl⟩))
                refine wp_loop_rounds 3 ?_
                rw [rounds_succ]
                go_wp2_with (go_at_call 18; (with_reducible refine (c2 _).mono ?_); rintro e w' ⟨rfl, rfl⟩)
                rw [rounds_succ]
                go_wp2_with (go_at_call 18; (with_reducible refine (c1 _).mono ?_); rintro e w' ⟨rfl, rfl⟩)
                refine bodyPost_ret (nx_ret rfl _ _ w.heap.size (w.heap.size + 1) _ _ _ _ _ _ _ _ (0, 0) (0, 0) rfl rfl rfl (HN2.out.fin _ _ _ _ _ _ _).1 (HN2.out.fin _ _ _ _ _ _ _).2.1) rfl ?_
                exact ⟨rfl, (HN2.out.fin _ _ _ _ _ _ _).2.2⟩
            · rw [if_neg u3]
              have en : nxR noPc a = .tuple #[tv noTk 0, .int .i64 (a : Nat), .agg #[.int .i64 60, .int .i64 (a : Nat)]] := if_pos rfl
              rw [en]
              simp only [tv, noTk]
              clear u3 en
              rcases u1 with ⟨u1, c2⟩ | u1
              · have u4 : E2 ≤ s.size := by omega
                go_enter Tryd.func10, Tryd.ntmps10
                go_upto_region 1 with fail
                generalize World.alloc (World.alloc w _) _ = W at *
                go_wp2_with (first | (go_at_call 13; (with_reducible refine (cs _).mono ?_); rintro e w' ⟨rfl, rfl⟩) | (go_at_call 15; (with_reducible refine (cd _).mono ?_); rintro e w' ⟨rfl, rfl⟩))
                refine wp_loop_rounds 3 ?_
                rw [rounds_succ]
                go_wp2_with (go_at_call 18; (with_reducible refine (c2 _).mono ?_); rintro e w' ⟨rfl, rfl⟩)
                rw [rounds_succ]
                go_wp2_with (go_at_call 18; (with_reducible refine (c1 _).mono ?_); rintro e w' ⟨rfl, rfl⟩)
                rw [rounds_succ]
                go_wp2_with (go_at_call 19; (with_reducible refine (cf _).mono ?_); rintro e W2 ⟨rfl, hb⟩; (replace hN := hN.go hb); clear hb; (have k0 : W2.cell? ⟨w.heap.size, 0, none⟩ = some (.int .i64 0) := row_cellsX hN.h4 0); (have k1 : W2.cell? ⟨w.heap.size, 1, none⟩ = some (.int .i64 0) := row_cellsX hN.h4 1); (have k2 : W2.cell? ⟨w.heap.size, 2, none⟩ = some (.string ⟨#[]⟩) := row_cellsX hN.h4 2); (have k3 : W2.cell? ⟨w.heap.size, 3, none⟩ = some (.int .i64 0) := row_cellsX hN.h4 3); (have k4 : W2.cell? ⟨w.heap.size, 4, none⟩ = some (.int .u64 0) := row_cellsX hN.h4 4); (have k5 : W2.cell? ⟨w.heap.size + 1, 0, none⟩ = some (.int .i64 0) := row_cellsX hN.h6 0); (have k6 : W2.cell? ⟨w.heap.size + 1, 1, none⟩ = some (.int .i64 0) := row_cellsX hN.h6 1); (have z4 := row_thawX hN.h4); (have z6 := row_thawX hN.h6); (have HN2 := hid hN); clear hN)
                refine bodyPost_ret (nx_ret rfl _ _ w.heap.size (w.heap.size + 1) _ _ _ _ _ _ _ _ (0, 0) (0, 0) rfl rfl rfl (HN2.out.fin _ _ _ _ _ _ _).1 (HN2.out.fin _ _ _ _ _ _ _).2.1) rfl ?_
                exact ⟨rfl, (HN2.out.fin _ _ _ _ _ _ _).2.2⟩
              · have u4 : ¬ E2 ≤ s.size := by omega
                go_enter Tryd.func10, Tryd.ntmps10
                go_upto_region 1 with fail
                generalize World.alloc (World.alloc w _) _ = W at *
                go_wp2_with (first | (go_at_call 13; (with_reducible refine (cs _).mono ?_); rintro e w' ⟨rfl, rfl⟩) | (go_at_call 15; (with_reducible refine (cd _).mono ?_); rintro e w' ⟨rfl, rfl⟩))
                refine wp_loop_rounds 3 ?_
                rw [rounds_succ]
                go_wp2_with (go_at_call 18; (with_reducible refine (c2 _).mono ?_); rintro e w' ⟨rfl, rfl⟩)
                rw [rounds_succ]
                go_wp2_with (go_at_call 18; (with_reducible refine (c1 _).mono ?_); rintro e w' ⟨rfl, rfl⟩)
                rw [rounds_succ]
                go_wp2_with (go_at_call 19; (with_reducible refine (cf _).mono ?_); rintro e W2 ⟨rfl, hb⟩; (replace hN := hN.go hb); clear hb; (have k0 : W2.cell? ⟨w.heap.size, 0, none⟩ = some (.int .i64 0) := row_cellsX hN.h4 0); (have k1 : W2.cell? ⟨w.heap.size, 1, none⟩ = some (.int .i64 0) := row_cellsX hN.h4 1); (have k2 : W2.cell? ⟨w.heap.size, 2, none⟩ = some (.string ⟨#[]⟩) := row_cellsX hN.h4 2); (have k3 : W2.cell? ⟨w.heap.size, 3, none⟩ = some (.int .i64 0) := row_cellsX hN.h4 3); (have k4 : W2.cell? ⟨w.heap.size, 4, none⟩ = some (.int .u64 0) := row_cellsX hN.h4 4); (have k5 : W2.cell? ⟨w.heap.size + 1, 0, none⟩ = some (.int .i64 0) := row_cellsX hN.h6 0); (have k6 : W2.cell? ⟨w.heap.size + 1, 1, none⟩ = some (.int .i64 0) := row_cellsX hN.h6 1); (have z4 := row_thawX hN.h4); (have z6 := row_thawX hN.h6); (have HN2 := hid hN); clear hN)
                refine bodyPost_ret (nx_ret rfl _ _ w.heap.size (w.heap.size + 1) _ _ _ _ _ _ _ _ (0, 0) (0, 0) rfl rfl rfl (HN2.out.fin _ _ _ _ _ _ _).1 (HN2.out.fin _ _ _ _ _ _ _).2.1) rfl ?_
                exact ⟨rfl, (HN2.out.fin _ _ _ _ _ _ _).2.2⟩
end Go.Proofs.YtdoojooepkdlhaaDoor.W
/- casketref11: numbers of whichever kind. -/
namespace Go.Proofs.YtdoojooepkdlhaaDoor.W
open Go.ChangeShapes Go.WideShapes Go.RowKit Go.Shelf
set_option linter.unusedVariables false
set_option linter.unusedSimpArgs false
theorem pow_other (c : UInt8) (d : List UInt8) (h : c ≠ 112) : powN (c :: d) = 0 := by unfold powN; split <;> simp_all
theorem pow_plain (c : UInt8) (d : List UInt8) (h1 : c ≠ 43) (h2 : c ≠ 45) : powN (112 :: c :: d) = 1 + runN digB (c :: d) := by unfold powN; split <;> simp_all
theorem eqI_true {c : UInt8} {n : Nat} (h : c.toNat = n) : ((c.toNat : Int) == (n : Int)) = true := by rw [h]; simp
theorem eqI_false {c : UInt8} {n : Nat} (h : ¬ c.toNat = n) : ((c.toNat : Int) == (n : Int)) = false := by
  rw [beq_eq_false_iff_ne]; intro q; exact h (by omega)
theorem u8_notN {c : UInt8} {n : Nat} (hn : n < 256) (h : ¬ c.toNat = n) : c ≠ n.toUInt8 := by
  intro q; apply h; rw [q]; simp [Nat.toUInt8, UInt8.toNat_ofNat, Nat.mod_eq_of_lt hn]
/-- how the power behind a double's digits is read -/
theorem pow_ways (s : ByteArray) (k1 K2 tE : Nat) (hk : k1 ≤ s.size) (hK2 : k1 + 1 = K2) (hE : tE = k1 + powN (s.data.toList.drop k1)) :
    (tE = k1 ∧ (¬ k1 < s.size ∨ ∃ h : k1 < s.size, ((s[k1].toNat : Int) == 112) = false)) ∨ (∃ h : k1 < s.size, ((s[k1].toNat : Int) == 112) = true ∧ ∃ k3, k1 ≤ k3 ∧ (runN digB (s.data.toList.drop k3) + k3 = tE ∧ k3 ≤ s.size) ∧ ((k3 = K2 + 1 ∧ ∃ h : K2 < s.size, ((s[K2].toNat : Int) == 43) = true ∨ (((s[K2].toNat : Int) == 43) = false ∧ ((s[K2].toNat : Int) == 45) = true)) ∨ (k3 = K2 ∧ (¬ K2 < s.size ∨ ∃ h : K2 < s.size, ((s[K2].toNat : Int) == 43) = false ∧ ((s[K2].toNat : Int) == 45) = false)))) := by
  by_cases h : k1 < s.size
  · have hd := drop_cons s k1 h
    by_cases hp : s[k1].toNat = 112
    · right
      refine ⟨h, eqI_true hp, ?_⟩
      have hc : s[k1] = 112 := u8_is hp
      rw [hd, hc, hK2] at hE
      by_cases h2 : K2 < s.size
      · have hd2 := drop_cons s K2 h2
        rw [hd2] at hE
        by_cases g1 : s[K2].toNat = 43
        · have hc2 : s[K2] = 43 := u8_is g1
          rw [hc2] at hE
          have e : powN (112 :: 43 :: s.data.toList.drop (K2 + 1)) = 2 + runN digB (s.data.toList.drop (K2 + 1)) := rfl
          rw [e] at hE
          exact ⟨K2 + 1, by omega, ⟨by omega, by omega⟩, .inl ⟨rfl, h2, .inl (eqI_true g1)⟩⟩
        · by_cases g2 : s[K2].toNat = 45
          · have hc2 : s[K2] = 45 := u8_is g2
            rw [hc2] at hE
            have e : powN (112 :: 45 :: s.data.toList.drop (K2 + 1)) = 2 + runN digB (s.data.toList.drop (K2 + 1)) := rfl
            rw [e] at hE
            exact ⟨K2 + 1, by omega, ⟨by omega, by omega⟩, .inl ⟨rfl, h2, .inr ⟨eqI_false g1, eqI_true g2⟩⟩⟩
          · rw [pow_plain _ _ (u8_notN (by decide) g1) (u8_notN (by decide) g2), ← hd2] at hE
            exact ⟨K2, by omega, ⟨by omega, by omega⟩, .inr ⟨rfl, .inr ⟨h2, eqI_false g1, eqI_false g2⟩⟩⟩
      · rw [List.drop_eq_nil_of_le (by rw [size_list]; omega)] at hE
        have e : powN [112] = 1 := rfl
        rw [e] at hE
        refine ⟨K2, by omega, ⟨?_, by omega⟩, .inr ⟨rfl, .inl h2⟩⟩
        rw [List.drop_eq_nil_of_le (by rw [size_list]; omega)]
        have e2 : runN digB [] = 0 := rfl
        omega
    · left
      rw [hd, pow_other _ _ (u8_notN (by decide) hp)] at hE
      exact ⟨by omega, .inr ⟨h, eqI_false hp⟩⟩
  · left
    rw [List.drop_eq_nil_of_le (by rw [size_list]; omega)] at hE
    have e : powN [] = 0 := rfl
    exact ⟨by omega, .inl h⟩
theorem whole_size (r : List UInt8) (h : runN digB r ≠ 0) : wholeP r = if (readI (r.take (runN digB r))).2 = 0 then okPc ⟨4, ⟨#[]⟩, (readI (r.take (runN digB r))).1, 0⟩ (runN digB r) else badPc (runN digB r) 62 := if_neg h
theorem rNumber_c (s : ByteArray) (hs : s.size ≤ 1000000) (a : Nat) (ha : a < s.size) (hd : digB s[a] = true) (w : World) :
    Calls Tryd.prog 16 #[.string s, .int .i64 a] w fun e w' => e = .returned (nxR (orPc (doubleP (s.data.toList.drop a)) (wholeP (s.data.toList.drop a))) a) ∧ Below w.heap.size w w' := by
  have hcs := drop_cons s a ha
  by_cases hx : (s.data.toList.drop a).take 2 = hexT
  · have ha1 : a + 1 < s.size := by
      have := congrArg List.length hx
      rw [List.length_take, List.length_drop, size_list] at this
      have e : hexT.length = 2 := rfl
      omega
    have hcs1 := drop_cons s (a + 1) ha1
    have hx' := hx
    rw [hcs, hcs1] at hx'
    have e0 : s[a] = 48 := (List.cons.inj hx').1
    have e1 : s[a + 1] = 120 := (List.cons.inj (List.cons.inj hx').2).1
    have dd : ∀ m, (s.data.toList.drop a).drop m = s.data.toList.drop (a + m) := fun m => by rw [List.drop_drop]
    obtain ⟨k1, hk1⟩ : ∃ k1, runN hexPB (s.data.toList.drop (a + 2)) + (a + 2) = k1 := ⟨_, rfl⟩
    obtain ⟨n, hn⟩ : ∃ n, dblN (s.data.toList.drop a) = n := ⟨_, rfl⟩
    have hl1 := runN_le hexPB (s.data.toList.drop (a + 2))
    rw [List.length_drop, size_list] at hl1
    have hk1s : k1 ≤ s.size := by omega
    have hn' : a + n = k1 + powN (s.data.toList.drop k1) := by
      rw [← hn]
      unfold dblN
      rw [dd, dd]
      have : a + (2 + runN hexPB (s.data.toList.drop (a + 2))) = k1 := by omega
      rw [this]
      omega
    have n0 : n ≠ 0 := by omega
    obtain ⟨S, hS⟩ : ∃ S, s.extract a (a + n) = S := ⟨_, rfl⟩
    have hSl : S.data.toList = (s.data.toList.drop a).take n := by rw [← hS, ext_take]
    have hSs : S.size ≤ 1000000 := by
      rw [← size_list, hSl, List.length_take, List.length_drop, size_list]; omega
    have cp := fun w => refParseFloat_c S (Nat.le_trans hSs (by unfold maxLen; decide)) w
    unfold pfV at cp
    rw [hSl] at cp
    refine rHexN_core s S hs a (a + 1) (a + 2) k1 (a + n) rfl rfl ha ha1 (by rw [e0]; rfl) (by rw [e1]; rfl) hk1 hS _ _ cp (k1 + 1) rfl (pow_ways s k1 (k1 + 1) (a + n) hk1s rfl hn') _ ?_ w
    have hdb : doubleP (s.data.toList.drop a) = if (readF ((s.data.toList.drop a).take n)).2 = 0 then okPc ⟨5, ⟨#[]⟩, 0, (readF ((s.data.toList.drop a).take n)).1⟩ n else badPc n 62 := by
      rw [← hn]; exact if_pos hx
    rw [hdb]
    by_cases hz : (readF ((s.data.toList.drop a).take n)).2 = 0
    · right
      refine ⟨hz, ?_⟩
      rw [if_pos hz]
      have : orPc (okPc ⟨5, ⟨#[]⟩, 0, (readF ((s.data.toList.drop a).take n)).1⟩ n) (wholeP (s.data.toList.drop a)) = okPc ⟨5, ⟨#[]⟩, 0, (readF ((s.data.toList.drop a).take n)).1⟩ n := if_neg n0
      rw [this, nx_ok _ n a n0]
    · left
      refine ⟨hz, ?_⟩
      rw [if_neg hz]
      have : orPc (badPc n 62) (wholeP (s.data.toList.drop a)) = badPc n 62 := if_neg n0
      rw [this, nx_bad n 62 a n0 (by decide)]
  · have hdb : doubleP (s.data.toList.drop a) = noPc := if_neg hx
    rw [hdb, or_no]
    obtain ⟨n, hn⟩ : ∃ n, runN digB (s.data.toList.drop a) = n := ⟨_, rfl⟩
    have n0 : n ≠ 0 := by rw [← hn, hcs, runN_cons_t hd]; omega
    have hl := runN_le digB (s.data.toList.drop a)
    rw [List.length_drop, size_list] at hl
    obtain ⟨S, hS⟩ : ∃ S, s.extract a (a + n) = S := ⟨_, rfl⟩
    have hSl : S.data.toList = (s.data.toList.drop a).take n := by rw [← hS, ext_take]
    have hSs : S.size ≤ 1000000 := by
      rw [← size_list, hSl, List.length_take, List.length_drop, size_list]; omega
    have cp := fun w => refParseInt_c S (Nat.le_trans hSs (by unfold maxLen; decide)) w
    rw [hSl] at cp
    have hw : wholeP (s.data.toList.drop a) = if (readI ((s.data.toList.drop a).take n)).2 = 0 then okPc ⟨4, ⟨#[]⟩, (readI ((s.data.toList.drop a).take n)).1, 0⟩ n else badPc n 62 := by
      rw [← hn]; exact if_neg (by rw [hn]; exact n0)
    rw [hw]
    refine rWhole_core s S hs a n (a + n) ha rfl n0 (by omega) hn hS _ _ cp ?_ _ ?_ w
    · by_cases q0 : s[a].toNat = 48
      · right
        refine ⟨eqI_true q0, ?_⟩
        by_cases q1 : a + 1 < s.size
        · right
          refine ⟨q1, eqI_false ?_⟩
          intro q2
          apply hx
          have e0 : s[a] = 48 := u8_is q0
          have e1 : s[a + 1] = 120 := u8_is q2
          rw [hcs, drop_cons s (a + 1) q1, e0, e1]
          rfl
        · left; omega
      · exact .inl (eqI_false q0)
    · by_cases hz : (readI ((s.data.toList.drop a).take n)).2 = 0
      · right
        refine ⟨hz, ?_⟩
        rw [if_pos hz, nx_ok _ n a n0]
      · left
        refine ⟨hz, ?_⟩
        rw [if_neg hz, nx_bad n 62 a n0 (by decide)]
end Go.Proofs.YtdoojooepkdlhaaDoor.W
/- casketref11: strings, in plain words: what a round of its loop finds. -/
namespace Go.Proofs.YtdoojooepkdlhaaDoor.W
open Go.ChangeShapes Go.WideShapes Go.RowKit Go.Shelf
set_option linter.unusedVariables false
set_option linter.unusedSimpArgs false
def badS (a : Nat) : Value := .tuple #[tv noTk 0, .int .i64 (a : Nat), .agg #[.int .i64 61, .int .i64 (a : Nat)]]
/-- what is still to be read of a string: from the j-th byte on -/
def goS (s : ByteArray) (a f j : Nat) (acc : List UInt8) : Value := nxR (quoteGo f (s.data.toList.drop j) (j - a) acc) a
theorem goS_end (s : ByteArray) (a f j : Nat) (acc : List UInt8) (h1 : a < j) (h : ¬ j < s.size) : goS s a f j acc = badS a := by
  unfold goS badS
  rw [List.drop_eq_nil_of_le (by rw [size_list]; omega), quote_end, nx_bad _ 61 a (by omega) (by decide)]
theorem goS_stop (s : ByteArray) (a f j : Nat) (acc : List UInt8) (h1 : a < j) (hf : 0 < f) (h : j < s.size) (hq : s[j].toNat = 34) : goS s a f j acc = .tuple #[tv ⟨6, bytesOf acc, 0, 0⟩ (a : Nat), .int .i64 ((j + 1 : Nat) : Int), .agg #[.int .i64 0, .int .i64 0]] := by
  unfold goS
  have e : a + (j - a + 1) = j + 1 := by omega
  rw [drop_cons s j h, quote_stop f _ _ _ acc hf (u8_is hq), nx_ok _ _ a (by omega), e]
theorem goS_bad (s : ByteArray) (a f j : Nat) (acc : List UInt8) (h1 : a < j) (hf : 0 < f) (h : j < s.size) (hq : ¬ s[j].toNat = 34) (hz : (speltP (s.data.toList.drop j)).2 = 0) : goS s a f j acc = badS a := by
  unfold goS badS
  have hd := drop_cons s j h
  rw [hd] at hz ⊢
  rw [quote_bad f _ _ _ acc hf (u8_notN (by decide) hq) hz, nx_bad _ 61 a (by omega) (by decide)]
theorem goS_on (s : ByteArray) (a f j m : Nat) (c : UInt8) (acc : List UInt8) (h1 : a < j) (h : j < s.size) (hq : ¬ s[j].toNat = 34) (hm : m ≠ 0) (hz : speltP (s.data.toList.drop j) = (c.toNat, m)) : goS s a (f + 1) j acc = goS s a f (j + m) (acc ++ [c]) := by
  unfold goS
  have hd := drop_cons s j h
  have e2 : (speltP (s.data.toList.drop j)).2 = m := by rw [hz]
  have e1 : (speltP (s.data.toList.drop j)).1.toUInt8 = c := by rw [hz]; simp
  have e3 : j + m - a = j - a + m := by omega
  rw [e3]
  have := quote_on f (j - a) s[j] (s.data.toList.drop (j + 1)) acc (u8_notN (by decide) hq) (by rw [← hd, e2]; exact hm)
  rw [← hd, e2, e1, List.drop_drop] at this
  rw [this]
/-- a byte by itself -/
theorem sp_one (s : ByteArray) (j : Nat) (h : j < s.size) (h1 : ¬ s[j].toNat < 32) (h2 : ¬ 126 < s[j].toNat) (h3 : ¬ s[j].toNat = 92) : speltP (s.data.toList.drop j) = (s[j].toNat, 1) := by
  rw [drop_cons s j h]
  exact (spelt_head _ _).2 (by omega) (u8_notN (by decide) h3)
theorem sp_none (s : ByteArray) (j : Nat) (h : j < s.size) (h1 : s[j].toNat < 32 ∨ 126 < s[j].toNat) : (speltP (s.data.toList.drop j)).2 = 0 := by
  rw [drop_cons s j h, (spelt_head _ _).1 h1]
theorem sp_last (s : ByteArray) (j J1 : Nat) (hJ1 : j + 1 = J1) (h : j < s.size) (h1 : s[j].toNat = 92) (h2 : ¬ J1 < s.size) : (speltP (s.data.toList.drop j)).2 = 0 := by
  subst hJ1
  have e : s[j] = 92 := u8_is h1
  rw [drop_cons s j h, e, (spelt_esc _).1 (List.drop_eq_nil_of_le (by rw [size_list]; omega))]
theorem sp_self (s : ByteArray) (j J1 J2 J3 : Nat) (hJ1 : j + 1 = J1) (hJ2 : j + 2 = J2) (hJ3 : j + 3 = J3) (h : j < s.size) (h1 : s[j].toNat = 92) (h2 : J1 < s.size) (h3 : s[J1].toNat = 92 ∨ s[J1].toNat = 34) : speltP (s.data.toList.drop j) = (s[J1].toNat, 2) := by
  subst hJ1; subst hJ2; subst hJ3
  have e : s[j] = 92 := u8_is h1
  rw [drop_cons s j h, e]
  obtain ⟨k1, k2, k3, k4, k5⟩ := (spelt_esc (s.data.toList.drop (j + 1))).2 _ _ (drop_cons s (j + 1) h2)
  rcases h3 with h3 | h3
  · rw [k1 (u8_is h3), h3]
  · rw [k2 (u8_is h3), h3]
theorem sp_line (s : ByteArray) (j J1 J2 J3 : Nat) (hJ1 : j + 1 = J1) (hJ2 : j + 2 = J2) (hJ3 : j + 3 = J3) (h : j < s.size) (h1 : s[j].toNat = 92) (h2 : J1 < s.size) (h3 : s[J1].toNat = 110) : speltP (s.data.toList.drop j) = ((10 : UInt8).toNat, 2) := by
  subst hJ1; subst hJ2; subst hJ3
  have e : s[j] = 92 := u8_is h1
  rw [drop_cons s j h, e]
  obtain ⟨k1, k2, k3, k4, k5⟩ := (spelt_esc (s.data.toList.drop (j + 1))).2 _ _ (drop_cons s (j + 1) h2)
  rw [k3 (u8_is h3)]; rfl
theorem sp_other (s : ByteArray) (j J1 J2 J3 : Nat) (hJ1 : j + 1 = J1) (hJ2 : j + 2 = J2) (hJ3 : j + 3 = J3) (h : j < s.size) (h1 : s[j].toNat = 92) (h2 : J1 < s.size) (g1 : ¬ s[J1].toNat = 92) (g2 : ¬ s[J1].toNat = 34) (g3 : ¬ s[J1].toNat = 110) (g4 : ¬ s[J1].toNat = 120) : (speltP (s.data.toList.drop j)).2 = 0 := by
  subst hJ1; subst hJ2; subst hJ3
  have e : s[j] = 92 := u8_is h1
  rw [drop_cons s j h, e]
  obtain ⟨k1, k2, k3, k4, k5⟩ := (spelt_esc (s.data.toList.drop (j + 1))).2 _ _ (drop_cons s (j + 1) h2)
  rw [k5 (u8_notN (by decide) g1) (u8_notN (by decide) g2) (u8_notN (by decide) g3) (u8_notN (by decide) g4)]
theorem sp_hex (s : ByteArray) (j J1 J2 J3 : Nat) (hJ1 : j + 1 = J1) (hJ2 : j + 2 = J2) (hJ3 : j + 3 = J3) (h : j < s.size) (h1 : s[j].toNat = 92) (h2 : J1 < s.size) (h3 : s[J1].toNat = 120) (h4 : J2 < s.size) (h5 : J3 < s.size) :
    (0 ≤ hexV s[J2] → 0 ≤ hexV s[J3] → ∃ c : UInt8, (c.toNat : Int) = 16 * hexV s[J2] + hexV s[J3] ∧ speltP (s.data.toList.drop j) = (c.toNat, 4)) ∧ ((¬ 0 ≤ hexV s[J2] ∨ ¬ 0 ≤ hexV s[J3]) → (speltP (s.data.toList.drop j)).2 = 0) := by
  subst hJ1; subst hJ2; subst hJ3
  have e : s[j] = 92 := u8_is h1
  have e' : s[j + 1] = 120 := u8_is h3
  have hd : s.data.toList.drop j = 92 :: 120 :: s[j + 2] :: s[j + 3] :: s.data.toList.drop (j + 4) := by
    rw [drop_cons s j h, drop_cons s (j + 1) h2, drop_cons s (j + 2) h4, drop_cons s (j + 3) h5, e, e']
  have hs : speltP (s.data.toList.drop j) = if hexB s[j + 2] = true ∧ hexB s[j + 3] = true then ((16 * hexV s[j + 2] + hexV s[j + 3]).toNat, 4) else (0, 0) := by
    rw [hd]; rfl
  constructor
  · intro a b
    have := hexV_lt s[j + 2]
    have := hexV_lt s[j + 3]
    refine ⟨(16 * hexV s[j + 2] + hexV s[j + 3]).toNat.toUInt8, ?_, ?_⟩
    · simp; omega
    · rw [hs, if_pos ⟨decide_eq_true a, decide_eq_true b⟩]
      congr 1
      simp; omega
  · intro a
    rw [hs, if_neg]
    rintro ⟨b1, b2⟩
    have b1 : 0 ≤ hexV s[j + 2] := of_decide_eq_true b1
    have b2 : 0 ≤ hexV s[j + 3] := of_decide_eq_true b2
    rcases a with a | a
    · exact a b1
    · exact a b2
theorem sp_short (s : ByteArray) (j J1 J2 J3 : Nat) (hJ1 : j + 1 = J1) (hJ2 : j + 2 = J2) (hJ3 : j + 3 = J3) (h : j < s.size) (h1 : s[j].toNat = 92) (h2 : J1 < s.size) (h3 : s[J1].toNat = 120) (h4 : ¬ J3 < s.size) : (speltP (s.data.toList.drop j)).2 = 0 := by
  subst hJ1; subst hJ2; subst hJ3
  have e : s[j] = 92 := u8_is h1
  have hl : (s.data.toList.drop (j + 1)).length < 3 := by rw [List.length_drop, size_list]; omega
  rw [drop_cons s j h, e]
  obtain ⟨k1, k2, k3, k4, k5⟩ := (spelt_esc (s.data.toList.drop (j + 1))).2 _ _ (drop_cons s (j + 1) h2)
  rw [k4 (u8_is h3), hexBP_short _ (by rw [List.length_cons]; omega)]
end Go.Proofs.YtdoojooepkdlhaaDoor.W
/- casketref11: strings. -/
namespace Go.Proofs.YtdoojooepkdlhaaDoor.W
open Go.ChangeShapes Go.WideShapes Go.RowKit Go.Shelf
set_option linter.unusedVariables false
set_option linter.unusedSimpArgs false
theorem next_ok {a j f n m J L : Nat} (h1 : a < j) (h3 : n ≤ j + (f + 1)) (h4 : L ≤ j) (eJ : j + m = J) (hm : 0 < m) (hJ : J ≤ n) : a < J ∧ n ≤ J + f ∧ L + 1 ≤ J ∧ j < J := by omega
theorem two_le {j J1 J2 n : Nat} (hJ1 : j + 1 = J1) (hJ2 : j + 2 = J2) (d : J1 < n) : J2 ≤ n := by omega
theorem one_le {j J1 n : Nat} (hJ1 : j + 1 = J1) (d : j < n) : J1 ≤ n := by omega
theorem steps {j J1 J2 J3 n : Nat} (hJ1 : j + 1 = J1) (hJ2 : j + 2 = J2) (hJ3 : j + 3 = J3) (h : j ≤ n) : J1 ≤ n + 1 ∧ J1 + 1 = J2 ∧ J1 + 2 = J3 := by omega
theorem three_lt {j J2 J3 n : Nat} (hJ2 : j + 2 = J2) (hJ3 : j + 3 = J3) (d : J3 < n) : J2 < n := by omega
theorem len_ok {L j n : Nat} (h4 : L ≤ j) (h : j ≤ n) (hn : n ≤ 1000000) : L + 1 ≤ 2000000 := by omega
theorem pred_ok {f : Nat} (h : 0 < f) : ∃ g, f = g + 1 := ⟨f - 1, by omega⟩
theorem meas_to {n j J : Nat} (h : j < J) (h2 : J ≤ n) : n - (intOf (.int .i64 (J : Int))).toNat < n - (intOf (.int .i64 (j : Int))).toNat := by
  simp [intOf]; omega
theorem wrap_two {s : ByteArray} (hs : s.size ≤ 1000000) {j m : Nat} (hj : j ≤ s.size + 1) (h : j + 2 = m) : IntKind.i64.wrap ((j : Int) + 2) = (m : Int) ∧ wrap64 ((j : Int) + 2) = (m : Int) := by
  constructor
  · rw [IntKind.wrap_i64]; omega
  · unfold wrap64; omega
theorem Nx0.cells {w W : World} (h : Nx0 w W) : W.cell? ⟨w.heap.size, 0, none⟩ = some (.int .i64 0) ∧ W.cell? ⟨w.heap.size, 1, none⟩ = some (.int .i64 0) ∧ W.cell? ⟨w.heap.size, 2, none⟩ = some (.string ⟨#[]⟩) ∧ W.cell? ⟨w.heap.size, 3, none⟩ = some (.int .i64 0) ∧ W.cell? ⟨w.heap.size, 4, none⟩ = some (.int .u64 0) ∧ W.cell? ⟨w.heap.size + 1, 0, none⟩ = some (.int .i64 0) ∧ W.cell? ⟨w.heap.size + 1, 1, none⟩ = some (.int .i64 0) :=
  ⟨row_cellsX h.h4 0, row_cellsX h.h4 1, row_cellsX h.h4 2, row_cellsX h.h4 3, row_cellsX h.h4 4, row_cellsX h.h6 0, row_cellsX h.h6 1⟩
theorem Nx0.grown {w W W' : World} (h : Nx0 w W) {v : Value} {n : Nat} {xs : List Value} (o : W.ownsRow w.heap.size 5 1 v n xs) (g : W.grownBy W' v.ownBlock) (hl : ∀ k, v.ownBlock = some k → w.heap.size ≤ k) : Nx0 w W' :=
  ⟨h.bel.grown g h.bel.size hl,
   (((It.Upd.refl (fun j => _) _).grown g (fun j e => .inl e)).block w.heap.size (Array.getElem?_eq_some_iff.1 h.h4).1 (own_neX o h.h4 (by decide))).trans h.h4,
   (((It.Upd.refl (fun j => _) _).grown g (fun j e => .inl e)).block (w.heap.size + 1) (Array.getElem?_eq_some_iff.1 h.h6).1 (own_neX o h.h6 (by decide))).trans h.h6⟩
theorem four_le {j J3 J4 n : Nat} (hJ3 : j + 3 = J3) (hJ4 : j + 4 = J4) (d : J3 < n) : J4 ≤ n := by omega
theorem three_up {j J3 n : Nat} (hJ3 : j + 3 = J3) (d : J3 < n) : J3 ≤ n + 1 := by omega
theorem three_four {j J3 J4 : Nat} (hJ3 : j + 3 = J3) (hJ4 : j + 4 = J4) : J3 + 1 = J4 := by omega
theorem hex_sum (x y c : UInt8) (h1 : 0 ≤ hexV x) (h2 : 0 ≤ hexV y) (h : (c.toNat : Int) = 16 * hexV x + hexV y) : IntKind.i64.wrap (16 * hexV x) = 16 * hexV x ∧ wrap64 (16 * hexV x) = 16 * hexV x ∧ IntKind.i64.wrap (16 * hexV x + hexV y) = (c.toNat : Int) ∧ wrap64 (16 * hexV x + hexV y) = (c.toNat : Int) ∧ IntKind.u8.wrap (c.toNat : Int) = (c.toNat : Int) ∧ ((c.toNat : Int) % 256 = (c.toNat : Int)) := by
  have a1 := hexV_lt x
  have a2 := hexV_lt y
  have a3 := c.toNat_lt
  refine ⟨?_, ?_, ?_, ?_, ?_, ?_⟩
  · rw [IntKind.wrap_i64]; omega
  · unfold wrap64; omega
  · rw [IntKind.wrap_i64]; omega
  · unfold wrap64; omega
  · simp [IntKind.wrap, IntKind.signed, IntKind.bits]; omega
  · omega
set_option maxRecDepth 100000 in
set_option maxHeartbeats 40000000 in
theorem rText_core (s : ByteArray) (hs : s.size ≤ 1000000) (a F : Nat) (ha : a < s.size) (hF : s.size ≤ a + 1 + F) (RV : Value) (hR : goS s a F (a + 1) [] = RV) (w : World) :
    Calls Tryd.prog 17 #[.string s, .int .i64 a] w fun e w' => e = .returned RV ∧ Below w.heap.size w w' := by
  have cf := rFault_c 61 a
  simp only [tv, noTk] at cf
  have hN := Nx0.start w
  obtain ⟨a2, a3⟩ := wrap_in hs (Nat.le_succ_of_le (Nat.le_of_lt ha)) (rfl : a + 1 = a + 1)
  have HS := hid hs
  have HA := hid ha
  have HF := hid hF
  have HR0 := hid hR
  obtain ⟨i0, hi, hz0, hz1, hz2⟩ := info_parts infoB
  clear hs ha hF hR
  go_enter Tryd.func17, Tryd.ntmps17
  go_upto_region 1 with fail
  generalize World.alloc (World.alloc w _) _ = W at *
  have hO := World.ownsRow_lit (base := w.heap.size) (e := 5) (size := 1) W #[] 0 hN.bel.size (by simp) (by simp)
  replace hN := hN.go ((Below.refl _ W).alloc (Nat.le_refl _) (.cells #[] 5))
  have HO := hid hO
  clear hO
  go_upto_region 2 with fail
  generalize World.alloc W _ = W3 at *
  have HN := hid hN
  clear hN
  go_wp2_with fail
  clear a2 a3
  go_loopw [7, 8, 9] (fun v i _ wr => ∃ (j f : Nat) (acc : List UInt8), i = .int .i64 j ∧ a < j ∧ j ≤ s.size ∧ s.size ≤ j + f ∧ acc.length ≤ j ∧ goS s a f j acc = RV ∧ wr.ownsRow w.heap.size 5 1 v acc.length (bytesV acc) ∧ Nx0 w wr) (fun _ i _ _ => s.size - (intOf i).toNat)
  case atStart => exact ⟨a + 1, F, [], rfl, Nat.lt_succ_self a, HA.out, HF.out, Nat.zero_le _, HR0.out, HO.out, HN.out⟩
  case round =>
    obtain ⟨j, f, acc, rfl, h1, h2, h3, h4, hgo, hown, hN⟩ := hrel
    clear HO HN HR0
    have c0 : (0 : Int) ≤ (j : Int) := Int.natCast_nonneg j
    by_cases c : j < s.size
    · have c1 : (j : Int) < (s.size : Int) := Int.ofNat_lt.2 c
      have f0 : 0 < f := by omega
      by_cases q : s[j].toNat = 34
      · have HR := hid ((goS_stop s a f j acc h1 f0 c q).symm.trans hgo)
        have q1 : ((s[j].toNat : Int) == 34) = true := eqI_true q
        have kc := conv_own _ hown
        obtain ⟨w1, w2⟩ := wrap_in HS.out (Nat.le_succ_of_le h2) (rfl : j + 1 = j + 1)
        obtain ⟨k0, k1, k2, k3, k4, k5, k6⟩ := hN.cells
        have z4 := row_thawX hN.h4
        have z6 := row_thawX hN.h6
        have HN2 := hid hN
        clear hgo hown hN h1 h2 h3 h4 q f0
        go_wp2_with fail
        refine bodyPost_ret (nx_ret rfl _ _ w.heap.size (w.heap.size + 1) _ _ _ _ _ _ _ _ (0, 0) (0, 0) rfl rfl rfl (HN2.out.fin _ _ _ _ _ _ _).1 (HN2.out.fin _ _ _ _ _ _ _).2.1) rfl ?_
        exact ⟨by rw [← HR.out]; rfl, (HN2.out.fin _ _ _ _ _ _ _).2.2⟩
      · by_cases u : s[j].toNat < 32 ∨ 126 < s[j].toNat
        · have HR := hid ((goS_bad s a f j acc h1 f0 c q (sp_none s j c u)).symm.trans hgo)
          have q1 : ((s[j].toNat : Int) == 34) = false := eqI_false q
          clear hgo hown h1 h2 h3 h4 f0 q
          rcases u with u | u
          · have u1 : (s[j].toNat : Int) < 32 := by omega
            clear u
            go_wp2_with (go_at_call 19; (with_reducible refine (cf _).mono ?_); rintro e W2 ⟨rfl, hb⟩; (replace hN := hN.go hb); clear hb; (have k0 : W2.cell? ⟨w.heap.size, 0, none⟩ = some (.int .i64 0) := row_cellsX hN.h4 0); (have k1 : W2.cell? ⟨w.heap.size, 1, none⟩ = some (.int .i64 0) := row_cellsX hN.h4 1); (have k2 : W2.cell? ⟨w.heap.size, 2, none⟩ = some (.string ⟨#[]⟩) := row_cellsX hN.h4 2); (have k3 : W2.cell? ⟨w.heap.size, 3, none⟩ = some (.int .i64 0) := row_cellsX hN.h4 3); (have k4 : W2.cell? ⟨w.heap.size, 4, none⟩ = some (.int .u64 0) := row_cellsX hN.h4 4); (have k5 : W2.cell? ⟨w.heap.size + 1, 0, none⟩ = some (.int .i64 0) := row_cellsX hN.h6 0); (have k6 : W2.cell? ⟨w.heap.size + 1, 1, none⟩ = some (.int .i64 0) := row_cellsX hN.h6 1); (have z4 := row_thawX hN.h4); (have z6 := row_thawX hN.h6); (have HN2 := hid hN); clear hN)
            refine bodyPost_ret (nx_ret rfl _ _ w.heap.size (w.heap.size + 1) _ _ _ _ _ _ _ _ (0, 0) (0, 0) rfl rfl rfl (HN2.out.fin _ _ _ _ _ _ _).1 (HN2.out.fin _ _ _ _ _ _ _).2.1) rfl ?_
            exact ⟨by rw [← HR.out]; rfl, (HN2.out.fin _ _ _ _ _ _ _).2.2⟩
          · have u1 : ¬ (s[j].toNat : Int) < 32 := by omega
            have u2 : (s[j].toNat : Int) > 126 := by omega
            clear u
            go_wp2_with (go_at_call 19; (with_reducible refine (cf _).mono ?_); rintro e W2 ⟨rfl, hb⟩; (replace hN := hN.go hb); clear hb; (have k0 : W2.cell? ⟨w.heap.size, 0, none⟩ = some (.int .i64 0) := row_cellsX hN.h4 0); (have k1 : W2.cell? ⟨w.heap.size, 1, none⟩ = some (.int .i64 0) := row_cellsX hN.h4 1); (have k2 : W2.cell? ⟨w.heap.size, 2, none⟩ = some (.string ⟨#[]⟩) := row_cellsX hN.h4 2); (have k3 : W2.cell? ⟨w.heap.size, 3, none⟩ = some (.int .i64 0) := row_cellsX hN.h4 3); (have k4 : W2.cell? ⟨w.heap.size, 4, none⟩ = some (.int .u64 0) := row_cellsX hN.h4 4); (have k5 : W2.cell? ⟨w.heap.size + 1, 0, none⟩ = some (.int .i64 0) := row_cellsX hN.h6 0); (have k6 : W2.cell? ⟨w.heap.size + 1, 1, none⟩ = some (.int .i64 0) := row_cellsX hN.h6 1); (have z4 := row_thawX hN.h4); (have z6 := row_thawX hN.h6); (have HN2 := hid hN); clear hN)
            refine bodyPost_ret (nx_ret rfl _ _ w.heap.size (w.heap.size + 1) _ _ _ _ _ _ _ _ (0, 0) (0, 0) rfl rfl rfl (HN2.out.fin _ _ _ _ _ _ _).1 (HN2.out.fin _ _ _ _ _ _ _).2.1) rfl ?_
            exact ⟨by rw [← HR.out]; rfl, (HN2.out.fin _ _ _ _ _ _ _).2.2⟩
        · have u1 : ¬ (s[j].toNat : Int) < 32 := by omega
          have u2 : ¬ (s[j].toNat : Int) > 126 := by omega
          have v1 : ¬ s[j].toNat < 32 := by omega
          have v2 : ¬ 126 < s[j].toNat := by omega
          clear u
          have q1 : ((s[j].toNat : Int) == 34) = false := eqI_false q
          obtain ⟨J1, hJ1⟩ : ∃ J1, j + 1 = J1 := ⟨_, rfl⟩
          have HW1 := hid (wrap_in HS.out (Nat.le_succ_of_le h2) hJ1)
          by_cases b : s[j].toNat = 92
          · have b1 : ((s[j].toNat : Int) != 92) = false := by rw [b]; rfl
            obtain ⟨J2, hJ2⟩ : ∃ J2, j + 2 = J2 := ⟨_, rfl⟩
            obtain ⟨J3, hJ3⟩ : ∃ J3, j + 3 = J3 := ⟨_, rfl⟩
            have HX1 := hid (wrap_in HS.out (steps hJ1 hJ2 hJ3 h2).1 (steps hJ1 hJ2 hJ3 h2).2.1)
            have HY1 := hid (wrap_two HS.out (steps hJ1 hJ2 hJ3 h2).1 (steps hJ1 hJ2 hJ3 h2).2.2)
            have d0 : (0 : Int) ≤ (J1 : Int) := Int.natCast_nonneg J1
            by_cases d : J1 < s.size
            · have d1 : (J1 : Int) < (s.size : Int) := Int.ofNat_lt.2 d
              have d2 : ¬ J1 = s.size := by omega
              by_cases g1 : s[J1].toNat = 92 ∨ s[J1].toNat = 34
              · obtain ⟨f', rfl⟩ : ∃ f', f = f' + 1 := pred_ok f0
                have nk := next_ok h1 h3 h4 hJ2 (by decide) (two_le hJ1 hJ2 d)
                have HM := hid nk.2.2.2
                have eJ := hJ2
                have HX := hid (show a < J2 ∧ J2 ≤ s.size ∧ s.size ≤ J2 + f' ∧ (acc ++ [s[J1]]).length ≤ J2 ∧ goS s a f' J2 (acc ++ [s[J1]]) = RV from ⟨nk.1, (two_le hJ1 hJ2 d), nk.2.1, by rw [List.length_append, List.length_singleton]; exact nk.2.2.1, by rw [← eJ]; exact (goS_on s a f' j 2 s[J1] acc h1 c q (by decide) (sp_self s j J1 J2 J3 hJ1 hJ2 hJ3 c b d g1)).symm.trans hgo⟩)
                have HL := hid (len_ok h4 h2 HS.out)
                have HO := hid hown
                have HN := hid hN
                have g1' : ((s[J1].toNat : Int) == 92) = true ∨ (((s[J1].toNat : Int) == 92) = false ∧ ((s[J1].toNat : Int) == 34) = true) := by
                  by_cases g : s[J1].toNat = 92
                  · exact .inl (eqI_true g)
                  · exact .inr ⟨eqI_false g, eqI_true (g1.resolve_left g)⟩
                clear hgo hown hN h1 h2 h3 h4 f0 q v1 v2 b g1 eJ nk hJ1 hJ2 hJ3
                obtain ⟨w1, w2⟩ := HW1.out
                obtain ⟨x1, x2⟩ := HX1.out
                clear HW1 HX1 HY1
                rcases g1' with g1' | ⟨g1', g2'⟩
                · skip
                  go_wp2_with ((at_builtin; refine wpList_append_own _ rfl _ _ 54 rfl w.heap.size 5 i0 (.int .u8 0) 1 1 Tryd.underlying54 hi hz0 hz1 hz2 rfl (by decide) _ _ _ rfl (HO.out.alloc _) ⟨_, 0, none⟩ 1 1 [.int .u8 s[J1].toNat] rfl rfl ?ea1 ?ea2 ?ea3 ?ea4 ?ea5 ?_))
                  case ea2 => first | (intro u hu; simp at hu; subst hu; rfl) | rfl | (simp; done)
                  case ea3 => have := HL.out; first | omega | (unfold maxLen; omega)
                  case ea4 => have := HL.out; omega
                  case ea5 => have := HN.out.bel.size; first | omega | (simp; omega)
                  · intro v' w1 hown' hgrow _
                    have R1 := hid (bytesV_snoc acc s[J1] s[J1].toNat rfl)
                    have RN := hid ((HN.out.go ((Below.refl _ _).alloc (Nat.le_refl _) (.cells #[.int .u8 s[J1].toNat] 5))).grown (HO.out.alloc _) hgrow (fun k e => (HO.out.lt k e).1))
                    clear hgrow HO HN
                    go_wp2
                    go_roundw
                    case rel => exact ⟨J2, f', acc ++ [s[J1]], by first | rfl | go_num, HX.out.1, HX.out.2.1, HX.out.2.2.1, HX.out.2.2.2.1, HX.out.2.2.2.2, by have := R1.out; rw [this, List.length_append]; exact hown', RN.out⟩
                    case measure => exact meas_to HM.out HX.out.2.1
                · skip
                  go_wp2_with ((at_builtin; refine wpList_append_own _ rfl _ _ 54 rfl w.heap.size 5 i0 (.int .u8 0) 1 1 Tryd.underlying54 hi hz0 hz1 hz2 rfl (by decide) _ _ _ rfl (HO.out.alloc _) ⟨_, 0, none⟩ 1 1 [.int .u8 s[J1].toNat] rfl rfl ?eb1 ?eb2 ?eb3 ?eb4 ?eb5 ?_))
                  case eb2 => first | (intro u hu; simp at hu; subst hu; rfl) | rfl | (simp; done)
                  case eb3 => have := HL.out; first | omega | (unfold maxLen; omega)
                  case eb4 => have := HL.out; omega
                  case eb5 => have := HN.out.bel.size; first | omega | (simp; omega)
                  · intro v' w1 hown' hgrow _
                    have R1 := hid (bytesV_snoc acc s[J1] s[J1].toNat rfl)
                    have RN := hid ((HN.out.go ((Below.refl _ _).alloc (Nat.le_refl _) (.cells #[.int .u8 s[J1].toNat] 5))).grown (HO.out.alloc _) hgrow (fun k e => (HO.out.lt k e).1))
                    clear hgrow HO HN
                    go_wp2
                    go_roundw
                    case rel => exact ⟨J2, f', acc ++ [s[J1]], by first | rfl | go_num, HX.out.1, HX.out.2.1, HX.out.2.2.1, HX.out.2.2.2.1, HX.out.2.2.2.2, by have := R1.out; rw [this, List.length_append]; exact hown', RN.out⟩
                    case measure => exact meas_to HM.out HX.out.2.1
              · by_cases g2 : s[J1].toNat = 110
                · obtain ⟨f', rfl⟩ : ∃ f', f = f' + 1 := pred_ok f0
                  have nk := next_ok h1 h3 h4 hJ2 (by decide) (two_le hJ1 hJ2 d)
                  have HM := hid nk.2.2.2
                  have eJ := hJ2
                  have HX := hid (show a < J2 ∧ J2 ≤ s.size ∧ s.size ≤ J2 + f' ∧ (acc ++ [10]).length ≤ J2 ∧ goS s a f' J2 (acc ++ [10]) = RV from ⟨nk.1, (two_le hJ1 hJ2 d), nk.2.1, by rw [List.length_append, List.length_singleton]; exact nk.2.2.1, by rw [← eJ]; exact (goS_on s a f' j 2 10 acc h1 c q (by decide) (sp_line s j J1 J2 J3 hJ1 hJ2 hJ3 c b d g2)).symm.trans hgo⟩)
                  have HL := hid (len_ok h4 h2 HS.out)
                  have HO := hid hown
                  have HN := hid hN
                  have g3 : ((s[J1].toNat : Int) == 92) = false := eqI_false (fun q => g1 (.inl q))
                  have g4 : ((s[J1].toNat : Int) == 34) = false := eqI_false (fun q => g1 (.inr q))
                  have g5 : ((s[J1].toNat : Int) == 110) = true := eqI_true g2
                  clear hgo hown hN h1 h2 h3 h4 f0 q v1 v2 b g1 g2 eJ nk hJ1 hJ2 hJ3
                  obtain ⟨w1, w2⟩ := HW1.out
                  obtain ⟨x1, x2⟩ := HX1.out
                  clear HW1 HX1 HY1
                  go_wp2_with ((at_builtin; refine wpList_append_own _ rfl _ _ 54 rfl w.heap.size 5 i0 (.int .u8 0) 1 1 Tryd.underlying54 hi hz0 hz1 hz2 rfl (by decide) _ _ _ rfl (HO.out.alloc _) ⟨_, 0, none⟩ 1 1 [Value.int .u8 (10 : Int)] (by rfl) (by rfl) ?ec1 ?ec2 ?ec3 ?ec4 ?ec5 ?_))
                  case ec2 => first | (intro u hu; simp at hu; subst hu; rfl) | rfl | (simp; done)
                  case ec3 => have := HL.out; first | omega | (unfold maxLen; omega)
                  case ec4 => have := HL.out; omega
                  case ec5 => have := HN.out.bel.size; first | omega | (simp; omega)
                  · intro v' w1 hown' hgrow _
                    have R1 := hid (bytesV_snoc acc 10 10 rfl)
                    have RN := hid ((HN.out.go ((Below.refl _ _).alloc (Nat.le_refl _) (.cells #[.int .u8 10] 5))).grown (HO.out.alloc _) hgrow (fun k e => (HO.out.lt k e).1))
                    clear hgrow HO HN
                    go_wp2
                    go_roundw
                    case rel => exact ⟨J2, f', acc ++ [10], by first | rfl | go_num, HX.out.1, HX.out.2.1, HX.out.2.2.1, HX.out.2.2.2.1, HX.out.2.2.2.2, by have := R1.out; rw [this, List.length_append]; exact hown', RN.out⟩
                    case measure => exact meas_to HM.out HX.out.2.1
                · have g3 : ((s[J1].toNat : Int) == 92) = false := eqI_false (fun q => g1 (.inl q))
                  have g4 : ((s[J1].toNat : Int) == 34) = false := eqI_false (fun q => g1 (.inr q))
                  have g5 : ((s[J1].toNat : Int) == 110) = false := eqI_false g2
                  by_cases g6 : s[J1].toNat = 120
                  · have g7 : ((s[J1].toNat : Int) == 120) = true := eqI_true g6
                    by_cases d3 : J3 < s.size
                    · have e3 : (J3 : Int) < (s.size : Int) := Int.ofNat_lt.2 d3
                      have d2' : J2 < s.size := three_lt hJ2 hJ3 d3
                      have e2 : (J2 : Int) < (s.size : Int) := Int.ofNat_lt.2 d2'
                      have n2 : (0 : Int) ≤ (J2 : Int) := Int.natCast_nonneg J2
                      have n3 : (0 : Int) ≤ (J3 : Int) := Int.natCast_nonneg J3
                      have chk2 := rHex_c s[J2]
                      have chk3 := rHex_c s[J3]
                      obtain ⟨hx1, hx2⟩ := sp_hex s j J1 J2 J3 hJ1 hJ2 hJ3 c b d g6 d2' d3
                      by_cases p2 : 0 ≤ hexV s[J2]
                      · by_cases p3 : 0 ≤ hexV s[J3]
                        · obtain ⟨f', rfl⟩ : ∃ f', f = f' + 1 := pred_ok f0
                          obtain ⟨J4, hJ4⟩ : ∃ J4, j + 4 = J4 := ⟨_, rfl⟩
                          obtain ⟨cc, hcc, hsp⟩ := hx1 p2 p3
                          have nk := next_ok h1 h3 h4 hJ4 (by decide) (four_le hJ3 hJ4 d3)
                          have HM := hid nk.2.2.2
                          have eJ := hJ4
                          have HX := hid (show a < J4 ∧ J4 ≤ s.size ∧ s.size ≤ J4 + f' ∧ (acc ++ [cc]).length ≤ J4 ∧ goS s a f' J4 (acc ++ [cc]) = RV from ⟨nk.1, (four_le hJ3 hJ4 d3), nk.2.1, by rw [List.length_append, List.length_singleton]; exact nk.2.2.1, by rw [← eJ]; exact (goS_on s a f' j 4 cc acc h1 c q (by decide) hsp).symm.trans hgo⟩)
                          have HL := hid (len_ok h4 h2 HS.out)
                          have HO := hid hown
                          have HN := hid hN
                          have HZ1 := hid (wrap_in HS.out (three_up hJ3 d3) (three_four hJ3 hJ4))
                          have HH := hid (hex_sum s[J2] s[J3] cc p2 p3 hcc)
                          clear hx1 hx2 hcc hsp
                          clear hgo hown hN h1 h2 h3 h4 f0 q v1 v2 b g1 g2 eJ nk hJ1 hJ2 hJ3 hJ4 g6
                          generalize hexV s[J2] = v2x at *
                          generalize hexV s[J3] = v3x at *
                          obtain ⟨w1, w2⟩ := HW1.out
                          obtain ⟨x1, x2⟩ := HX1.out
                          clear HW1 HX1
                          have HQ := hid (And.intro chk2 (And.intro chk3 (And.intro e2 (And.intro e3 (And.intro n2 (And.intro n3 (And.intro p2 p3)))))))
                          have G7 := hid g7
                          clear chk2 chk3 e2 e3 n2 n3 p2 p3 g7
                          go_upto_region 17 with fail
                          obtain ⟨chk2, chk3, e2, e3, n2, n3, p2, p3⟩ := HQ.out
                          obtain ⟨y1, y2⟩ := HY1.out
                          have g7 := G7.out
                          have p2' : v2x ≥ 0 := p2
                          have p3' : v3x ≥ 0 := p3
                          clear HQ HY1 G7
                          go_upto_region 18 with (first | (go_at_call 29; (with_reducible refine (chk2 _).mono ?_); rintro e w' ⟨rfl, hw⟩; (have hw' := hw.symm); subst hw'; clear hw) | (go_at_call 29; (with_reducible refine (chk3 _).mono ?_); rintro e w' ⟨rfl, hw⟩; (have hw' := hw.symm); subst hw'; clear hw))
                          obtain ⟨v', W6, hrun, hown', hgrow, _⟩ := run_append_own (P := Tryd.prog) (w := (wr.alloc (.cells #[.int .u8 cc.toNat] 5)).drew) w.heap.size 54 54 5 i0 (.int .u8 0) 1 1 Tryd.underlying54 hi hz0 hz1 hz2 rfl (by decide) _ _ _ (HO.out.alloc (.cells #[.int .u8 cc.toNat] 5)).drew ⟨wr.heap.size, 0, none⟩ 1 1 [.int .u8 cc.toNat] rfl (by intro j u hj; match j, hj with | 0, hj => simp at hj; subst hj; exact World.cell?_alloc_new wr #[Value.int .u8 cc.toNat] 5 0) (by intro u hu; simp at hu; subst hu; rfl) (by have := HL.out; unfold maxLen; omega) (by have := HL.out; omega) (by have := HN.out.bel.size; simp; omega)
                          obtain ⟨h5a, h5b, h5c, h5d, h5e, h5f⟩ := HH.out
                          have hS : True := trivial
                          (refine wp_region_held_drew (S := fun _ => True) (by kernel_rfl) trivial ?_); intro hS2
                          (refine wpAnyH_take (i := 0) (v := ?_) rfl (by kernel_rfl) (by kernel_rfl) (by kernel_rfl) (fun _ _ _ h => h) (Or.inl ⟨by rfl, ?_⟩) trivial ?_); rotate_left; focus (intro w' hSw; go_simp; (try with_reducible rfl)); (try simp only [Act.put, List.getElem_toArray, List.getElem_cons_zero, List.getElem_cons_succ, List.setIfInBounds_toArray, List.set_cons_zero, List.set_cons_succ])
                          (refine wpAnyH_take (i := 1) (v := ?_) rfl (by kernel_rfl) (by kernel_rfl) (by kernel_rfl) (fun _ _ _ h => h) (Or.inl ⟨by rfl, ?_⟩) trivial ?_); rotate_left; focus (intro w' hSw; go_simp; (try with_reducible rfl)); (try simp only [Act.put, List.getElem_toArray, List.getElem_cons_zero, List.getElem_cons_succ, List.setIfInBounds_toArray, List.set_cons_zero, List.set_cons_succ])
                          (refine wpAnyH_take (i := 2) (v := ?_) rfl (by kernel_rfl) (by kernel_rfl) (by kernel_rfl) (fun _ _ _ h => h) (Or.inl ⟨by rfl, ?_⟩) trivial ?_); rotate_left; focus (intro w' hSw; go_simp; (try with_reducible rfl)); (try simp only [Act.put, List.getElem_toArray, List.getElem_cons_zero, List.getElem_cons_succ, List.setIfInBounds_toArray, List.set_cons_zero, List.set_cons_succ])
                          (refine wpAnyH_take (i := 3) (v := ?_) rfl (by kernel_rfl) (by kernel_rfl) (by kernel_rfl) (fun _ _ _ h => h) (Or.inl ⟨by rfl, ?_⟩) trivial ?_); rotate_left; focus (intro w' hSw; go_simp; (try with_reducible rfl)); (try simp only [Act.put, List.getElem_toArray, List.getElem_cons_zero, List.getElem_cons_succ, List.setIfInBounds_toArray, List.set_cons_zero, List.set_cons_succ])
                          (refine wpAnyH_take (i := 4) (v := ?_) rfl (by kernel_rfl) (by kernel_rfl) (by kernel_rfl) (fun _ _ _ h => h) (Or.inl ⟨by rfl, ?_⟩) trivial ?_); rotate_left; focus (intro w' hSw; go_simp; (try with_reducible rfl)); (try simp only [Act.put, List.getElem_toArray, List.getElem_cons_zero, List.getElem_cons_succ, List.setIfInBounds_toArray, List.set_cons_zero, List.set_cons_succ])
                          (refine wpAnyH_take (i := 7) (v := ?_) rfl (by kernel_rfl) (by kernel_rfl) (by kernel_rfl) (fun _ _ _ h => h) (Or.inl ⟨by rfl, ?_⟩) trivial ?_); rotate_left; focus (intro w' hSw; go_simp; (try with_reducible rfl)); (try simp only [Act.put, List.getElem_toArray, List.getElem_cons_zero, List.getElem_cons_succ, List.setIfInBounds_toArray, List.set_cons_zero, List.set_cons_succ])
                          (refine wpAnyH_take (i := 8) (v := ?_) rfl (by kernel_rfl) (by kernel_rfl) (by kernel_rfl) (fun _ _ _ h => h) (Or.inl ⟨by rfl, ?_⟩) trivial ?_); rotate_left; focus (intro w' hSw; go_simp; (try with_reducible rfl)); (try simp only [Act.put, List.getElem_toArray, List.getElem_cons_zero, List.getElem_cons_succ, List.setIfInBounds_toArray, List.set_cons_zero, List.set_cons_succ])
                          (refine wpAnyH_take (i := 9) (v := ?_) rfl (by kernel_rfl) (by kernel_rfl) (by kernel_rfl) (fun _ _ _ h => h) (Or.inl ⟨by rfl, ?_⟩) trivial ?_); rotate_left; focus (intro w' hSw; go_simp; (try with_reducible rfl)); (try simp only [Act.put, List.getElem_toArray, List.getElem_cons_zero, List.getElem_cons_succ, List.setIfInBounds_toArray, List.set_cons_zero, List.set_cons_succ])
                          (refine wpAnyH_take (i := 10) (v := ?_) rfl (by kernel_rfl) (by kernel_rfl) (by kernel_rfl) (fun _ _ _ h => h) (Or.inl ⟨by rfl, ?_⟩) trivial ?_); rotate_left; focus (intro w' hSw; go_simp; (try with_reducible rfl)); (try simp only [Act.put, List.getElem_toArray, List.getElem_cons_zero, List.getElem_cons_succ, List.setIfInBounds_toArray, List.set_cons_zero, List.set_cons_succ])
                          (refine wpAnyH_ready (rs := [5]) (by kernel_rfl) (by simp) ?_); (refine AllReadyH.cons rfl (fun K hK => ?_) AllReadyH.nil); go_simp; (refine (chk2 _).mono ?_); rintro e w' ⟨rfl, hw⟩; (have hw' := hw.symm); subst hw'; clear hw; (refine hK.out _ _ trivial (fun hS => ?_)); clear hK K; (try simp only [Act.put, List.getElem_toArray, List.getElem_cons_zero, List.getElem_cons_succ, List.setIfInBounds_toArray, List.set_cons_zero, List.set_cons_succ])
                          (refine wpAnyH_take (i := 6) (v := ?_) rfl (by kernel_rfl) (by kernel_rfl) (by kernel_rfl) (fun _ _ _ h => h) (Or.inl ⟨by rfl, ?_⟩) trivial ?_); rotate_left; focus (intro w' hSw; go_simp; (try with_reducible rfl)); (try simp only [Act.put, List.getElem_toArray, List.getElem_cons_zero, List.getElem_cons_succ, List.setIfInBounds_toArray, List.set_cons_zero, List.set_cons_succ])
                          (refine wpAnyH_ready (rs := [11]) (by kernel_rfl) (by simp) ?_); (refine AllReadyH.cons rfl (fun K hK => ?_) AllReadyH.nil); go_simp; (refine (chk3 _).mono ?_); rintro e w' ⟨rfl, hw⟩; (have hw' := hw.symm); subst hw'; clear hw; (refine hK.out _ _ trivial (fun hS => ?_)); clear hK K; (try simp only [Act.put, List.getElem_toArray, List.getElem_cons_zero, List.getElem_cons_succ, List.setIfInBounds_toArray, List.set_cons_zero, List.set_cons_succ])
                          (refine wpAnyH_take (i := 12) (v := ?_) rfl (by kernel_rfl) (by kernel_rfl) (by kernel_rfl) (fun _ _ _ h => h) (Or.inl ⟨by rfl, ?_⟩) trivial ?_); rotate_left; focus (intro w' hSw; go_simp; (try with_reducible rfl)); (try simp only [Act.put, List.getElem_toArray, List.getElem_cons_zero, List.getElem_cons_succ, List.setIfInBounds_toArray, List.set_cons_zero, List.set_cons_succ])
                          (refine wpAnyH_take (i := 13) (v := ?_) rfl (by kernel_rfl) (by kernel_rfl) (by kernel_rfl) (fun _ _ _ h => h) (Or.inl ⟨by rfl, ?_⟩) trivial ?_); rotate_left; focus (intro w' hSw; go_simp; (try with_reducible rfl)); (try simp only [Act.put, List.getElem_toArray, List.getElem_cons_zero, List.getElem_cons_succ, List.setIfInBounds_toArray, List.set_cons_zero, List.set_cons_succ])
                          (refine wpAnyH_ready (rs := [14]) (by kernel_rfl) (by simp) ?_); (refine AllReadyH.cons rfl (fun K hK => ?_) AllReadyH.nil); go_simp; (refine hK.out _ _ trivial (fun hS => ?_)); clear hK K; (try simp only [Act.put, List.getElem_toArray, List.getElem_cons_zero, List.getElem_cons_succ, List.setIfInBounds_toArray, List.set_cons_zero, List.set_cons_succ])
                          (refine wpAnyH_ready (rs := [15]) (by kernel_rfl) (by simp) ?_); (refine AllReadyH.cons rfl (fun K hK => ?_) AllReadyH.nil)
                          rw [if_pos (by rfl)]
                          refine Lib.wp_append_run _ (.tmp 99) (.tmp 113) 54 54 rfl _ _ rfl rfl _ _ hrun ?_
                          refine hK.out _ _ trivial (fun hS => ?_)
                          clear hK K hrun
                          (try simp only [Act.put, List.getElem_toArray, List.getElem_cons_zero, List.getElem_cons_succ, List.setIfInBounds_toArray, List.set_cons_zero, List.set_cons_succ])
                          (refine wpAnyH_take (i := 16) (v := ?_) rfl (by kernel_rfl) (by kernel_rfl) (by kernel_rfl) (fun _ _ _ h => h) (Or.inl ⟨by rfl, ?_⟩) trivial ?_); rotate_left; focus (intro w' hSw; go_simp; (try with_reducible rfl)); (try simp only [Act.put, List.getElem_toArray, List.getElem_cons_zero, List.getElem_cons_succ, List.setIfInBounds_toArray, List.set_cons_zero, List.set_cons_succ])
                          refine wpAnyH_done (by kernel_rfl) ?_ _
                          have R1 := hid (bytesV_snoc acc cc cc.toNat rfl)
                          have RN := hid ((HN.out.go (((Below.refl _ wr).alloc (Nat.le_refl _) (.cells #[.int .u8 cc.toNat] 5)).drew)).grown (HO.out.alloc _).drew hgrow (fun k e => (HO.out.lt k e).1))
                          obtain ⟨t1, t2⟩ := HZ1.out
                          clear hgrow HO HN h5a h5b h5c h5d h5e h5f HH chk2 chk3
                          go_wp2
                          go_roundw
                          case rel => exact ⟨J4, f', acc ++ [cc], by first | rfl | go_num, HX.out.1, HX.out.2.1, HX.out.2.2.1, HX.out.2.2.2.1, HX.out.2.2.2.2, by have := R1.out; rw [this, List.length_append]; exact hown', RN.out⟩
                          case measure => exact meas_to HM.out HX.out.2.1
                        · have HR := hid ((goS_bad s a f j acc h1 f0 c q (hx2 (.inr p3))).symm.trans hgo)
                          clear hx1 hx2
                          clear hgo hown h1 h2 h3 h4 f0 q v1 v2 b g1 g2 hJ1 hJ2 hJ3
                          generalize hexV s[J2] = v2x at *
                          generalize hexV s[J3] = v3x at *
                          obtain ⟨w1, w2⟩ := HW1.out
                          obtain ⟨x1, x2⟩ := HX1.out
                          have HQ := hid (And.intro chk2 (And.intro chk3 (And.intro e2 (And.intro e3 (And.intro n2 (And.intro n3 (And.intro p2 (And.intro p3 g7))))))))
                          clear HW1 HX1 chk2 chk3 e2 e3 n2 n3 p2 p3 g7 g6
                          go_upto_region 17 with fail
                          obtain ⟨chk2, chk3, e2, e3, n2, n3, p2, p3, g7⟩ := HQ.out
                          obtain ⟨y1, y2⟩ := HY1.out
                          have p2' : v2x ≥ 0 := p2
                          have p3' : ¬ v3x ≥ 0 := p3
                          clear HQ HY1
                          go_wp2_with (first | (go_at_call 19; (with_reducible refine (cf _).mono ?_); rintro e W2 ⟨rfl, hb⟩; (replace hN := hN.go hb); clear hb; (have k0 : W2.cell? ⟨w.heap.size, 0, none⟩ = some (.int .i64 0) := row_cellsX hN.h4 0); (have k1 : W2.cell? ⟨w.heap.size, 1, none⟩ = some (.int .i64 0) := row_cellsX hN.h4 1); (have k2 : W2.cell? ⟨w.heap.size, 2, none⟩ = some (.string ⟨#[]⟩) := row_cellsX hN.h4 2); (have k3 : W2.cell? ⟨w.heap.size, 3, none⟩ = some (.int .i64 0) := row_cellsX hN.h4 3); (have k4 : W2.cell? ⟨w.heap.size, 4, none⟩ = some (.int .u64 0) := row_cellsX hN.h4 4); (have k5 : W2.cell? ⟨w.heap.size + 1, 0, none⟩ = some (.int .i64 0) := row_cellsX hN.h6 0); (have k6 : W2.cell? ⟨w.heap.size + 1, 1, none⟩ = some (.int .i64 0) := row_cellsX hN.h6 1); (have z4 := row_thawX hN.h4); (have z6 := row_thawX hN.h6); (have HN2 := hid hN); clear hN) | (go_at_call 29; (with_reducible refine (chk2 _).mono ?_); rintro e w' ⟨rfl, rfl⟩) | (go_at_call 29; (with_reducible refine (chk3 _).mono ?_); rintro e w' ⟨rfl, rfl⟩))
                          refine bodyPost_ret (nx_ret rfl _ _ w.heap.size (w.heap.size + 1) _ _ _ _ _ _ _ _ (0, 0) (0, 0) rfl rfl rfl (HN2.out.fin _ _ _ _ _ _ _).1 (HN2.out.fin _ _ _ _ _ _ _).2.1) rfl ?_
                          exact ⟨by rw [← HR.out]; rfl, (HN2.out.fin _ _ _ _ _ _ _).2.2⟩
                      · have HR := hid ((goS_bad s a f j acc h1 f0 c q (hx2 (.inl p2))).symm.trans hgo)
                        clear hx1 hx2 chk3
                        clear hgo hown h1 h2 h3 h4 f0 q v1 v2 b g1 g2 hJ1 hJ2 hJ3
                        generalize hexV s[J2] = v2x at *
                        obtain ⟨w1, w2⟩ := HW1.out
                        obtain ⟨x1, x2⟩ := HX1.out
                        have HQ := hid (And.intro chk2 (And.intro e2 (And.intro e3 (And.intro n2 (And.intro n3 (And.intro p2 g7))))))
                        clear HW1 HX1 chk2 e2 e3 n2 n3 p2 g7 g6
                        go_upto_region 17 with fail
                        obtain ⟨chk2, e2, e3, n2, n3, p2, g7⟩ := HQ.out
                        obtain ⟨y1, y2⟩ := HY1.out
                        have p2' : ¬ v2x ≥ 0 := p2
                        clear HQ HY1
                        go_wp2_with (first | (go_at_call 19; (with_reducible refine (cf _).mono ?_); rintro e W2 ⟨rfl, hb⟩; (replace hN := hN.go hb); clear hb; (have k0 : W2.cell? ⟨w.heap.size, 0, none⟩ = some (.int .i64 0) := row_cellsX hN.h4 0); (have k1 : W2.cell? ⟨w.heap.size, 1, none⟩ = some (.int .i64 0) := row_cellsX hN.h4 1); (have k2 : W2.cell? ⟨w.heap.size, 2, none⟩ = some (.string ⟨#[]⟩) := row_cellsX hN.h4 2); (have k3 : W2.cell? ⟨w.heap.size, 3, none⟩ = some (.int .i64 0) := row_cellsX hN.h4 3); (have k4 : W2.cell? ⟨w.heap.size, 4, none⟩ = some (.int .u64 0) := row_cellsX hN.h4 4); (have k5 : W2.cell? ⟨w.heap.size + 1, 0, none⟩ = some (.int .i64 0) := row_cellsX hN.h6 0); (have k6 : W2.cell? ⟨w.heap.size + 1, 1, none⟩ = some (.int .i64 0) := row_cellsX hN.h6 1); (have z4 := row_thawX hN.h4); (have z6 := row_thawX hN.h6); (have HN2 := hid hN); clear hN) | (go_at_call 29; (with_reducible refine (chk2 _).mono ?_); rintro e w' ⟨rfl, rfl⟩))
                        refine bodyPost_ret (nx_ret rfl _ _ w.heap.size (w.heap.size + 1) _ _ _ _ _ _ _ _ (0, 0) (0, 0) rfl rfl rfl (HN2.out.fin _ _ _ _ _ _ _).1 (HN2.out.fin _ _ _ _ _ _ _).2.1) rfl ?_
                        exact ⟨by rw [← HR.out]; rfl, (HN2.out.fin _ _ _ _ _ _ _).2.2⟩
                    · have e3 : ¬ (J3 : Int) < (s.size : Int) := fun q => d3 (Int.ofNat_lt.1 q)
                      have HR := hid ((goS_bad s a f j acc h1 f0 c q (sp_short s j J1 J2 J3 hJ1 hJ2 hJ3 c b d g6 d3)).symm.trans hgo)
                      clear hgo hown h1 h2 h3 h4 f0 q v1 v2 b g1 g2 hJ1 hJ2 hJ3
                      clear g6 d3
                      obtain ⟨w1, w2⟩ := HW1.out
                      obtain ⟨x1, x2⟩ := HX1.out
                      have HQ := hid (And.intro e3 g7)
                      clear HW1 HX1 e3 g7
                      go_upto_region 17 with fail
                      obtain ⟨e3, g7⟩ := HQ.out
                      obtain ⟨y1, y2⟩ := HY1.out
                      clear HQ HY1
                      go_wp2_with (go_at_call 19; (with_reducible refine (cf _).mono ?_); rintro e W2 ⟨rfl, hb⟩; (replace hN := hN.go hb); clear hb; (have k0 : W2.cell? ⟨w.heap.size, 0, none⟩ = some (.int .i64 0) := row_cellsX hN.h4 0); (have k1 : W2.cell? ⟨w.heap.size, 1, none⟩ = some (.int .i64 0) := row_cellsX hN.h4 1); (have k2 : W2.cell? ⟨w.heap.size, 2, none⟩ = some (.string ⟨#[]⟩) := row_cellsX hN.h4 2); (have k3 : W2.cell? ⟨w.heap.size, 3, none⟩ = some (.int .i64 0) := row_cellsX hN.h4 3); (have k4 : W2.cell? ⟨w.heap.size, 4, none⟩ = some (.int .u64 0) := row_cellsX hN.h4 4); (have k5 : W2.cell? ⟨w.heap.size + 1, 0, none⟩ = some (.int .i64 0) := row_cellsX hN.h6 0); (have k6 : W2.cell? ⟨w.heap.size + 1, 1, none⟩ = some (.int .i64 0) := row_cellsX hN.h6 1); (have z4 := row_thawX hN.h4); (have z6 := row_thawX hN.h6); (have HN2 := hid hN); clear hN)
                      refine bodyPost_ret (nx_ret rfl _ _ w.heap.size (w.heap.size + 1) _ _ _ _ _ _ _ _ (0, 0) (0, 0) rfl rfl rfl (HN2.out.fin _ _ _ _ _ _ _).1 (HN2.out.fin _ _ _ _ _ _ _).2.1) rfl ?_
                      exact ⟨by rw [← HR.out]; rfl, (HN2.out.fin _ _ _ _ _ _ _).2.2⟩
                  · have g7 : ((s[J1].toNat : Int) == 120) = false := eqI_false g6
                    have HR := hid ((goS_bad s a f j acc h1 f0 c q (sp_other s j J1 J2 J3 hJ1 hJ2 hJ3 c b d (fun q => g1 (.inl q)) (fun q => g1 (.inr q)) g2 g6)).symm.trans hgo)
                    clear hgo hown h1 h2 h3 h4 f0 q v1 v2 b g1 g2 hJ1 hJ2 hJ3
                    clear g6
                    obtain ⟨w1, w2⟩ := HW1.out
                    obtain ⟨x1, x2⟩ := HX1.out
                    clear HW1 HX1 HY1
                    go_wp2_with (go_at_call 19; (with_reducible refine (cf _).mono ?_); rintro e W2 ⟨rfl, hb⟩; (replace hN := hN.go hb); clear hb; (have k0 : W2.cell? ⟨w.heap.size, 0, none⟩ = some (.int .i64 0) := row_cellsX hN.h4 0); (have k1 : W2.cell? ⟨w.heap.size, 1, none⟩ = some (.int .i64 0) := row_cellsX hN.h4 1); (have k2 : W2.cell? ⟨w.heap.size, 2, none⟩ = some (.string ⟨#[]⟩) := row_cellsX hN.h4 2); (have k3 : W2.cell? ⟨w.heap.size, 3, none⟩ = some (.int .i64 0) := row_cellsX hN.h4 3); (have k4 : W2.cell? ⟨w.heap.size, 4, none⟩ = some (.int .u64 0) := row_cellsX hN.h4 4); (have k5 : W2.cell? ⟨w.heap.size + 1, 0, none⟩ = some (.int .i64 0) := row_cellsX hN.h6 0); (have k6 : W2.cell? ⟨w.heap.size + 1, 1, none⟩ = some (.int .i64 0) := row_cellsX hN.h6 1); (have z4 := row_thawX hN.h4); (have z6 := row_thawX hN.h6); (have HN2 := hid hN); clear hN)
                    refine bodyPost_ret (nx_ret rfl _ _ w.heap.size (w.heap.size + 1) _ _ _ _ _ _ _ _ (0, 0) (0, 0) rfl rfl rfl (HN2.out.fin _ _ _ _ _ _ _).1 (HN2.out.fin _ _ _ _ _ _ _).2.1) rfl ?_
                    exact ⟨by rw [← HR.out]; rfl, (HN2.out.fin _ _ _ _ _ _ _).2.2⟩
            · have d2 : J1 = s.size := by omega
              have HR := hid ((goS_bad s a f j acc h1 f0 c q (sp_last s j J1 hJ1 c b d)).symm.trans hgo)
              clear hgo hown h1 h2 h3 h4 f0 q v1 v2 b hJ1 hJ2 hJ3
              obtain ⟨w1, w2⟩ := HW1.out
              clear HW1 HX1 HY1
              have d3 : (J1 : Int) = (s.size : Int) := by rw [d2]
              clear d d2
              go_wp2_with (go_at_call 19; (with_reducible refine (cf _).mono ?_); rintro e W2 ⟨rfl, hb⟩; (replace hN := hN.go hb); clear hb; (have k0 : W2.cell? ⟨w.heap.size, 0, none⟩ = some (.int .i64 0) := row_cellsX hN.h4 0); (have k1 : W2.cell? ⟨w.heap.size, 1, none⟩ = some (.int .i64 0) := row_cellsX hN.h4 1); (have k2 : W2.cell? ⟨w.heap.size, 2, none⟩ = some (.string ⟨#[]⟩) := row_cellsX hN.h4 2); (have k3 : W2.cell? ⟨w.heap.size, 3, none⟩ = some (.int .i64 0) := row_cellsX hN.h4 3); (have k4 : W2.cell? ⟨w.heap.size, 4, none⟩ = some (.int .u64 0) := row_cellsX hN.h4 4); (have k5 : W2.cell? ⟨w.heap.size + 1, 0, none⟩ = some (.int .i64 0) := row_cellsX hN.h6 0); (have k6 : W2.cell? ⟨w.heap.size + 1, 1, none⟩ = some (.int .i64 0) := row_cellsX hN.h6 1); (have z4 := row_thawX hN.h4); (have z6 := row_thawX hN.h6); (have HN2 := hid hN); clear hN)
              refine bodyPost_ret (nx_ret rfl _ _ w.heap.size (w.heap.size + 1) _ _ _ _ _ _ _ _ (0, 0) (0, 0) rfl rfl rfl (HN2.out.fin _ _ _ _ _ _ _).1 (HN2.out.fin _ _ _ _ _ _ _).2.1) rfl ?_
              exact ⟨by rw [← HR.out]; rfl, (HN2.out.fin _ _ _ _ _ _ _).2.2⟩
          · have b1 : ((s[j].toNat : Int) != 92) = true := by have := eqI_false b; simp only [bne]; rw [show ((s[j].toNat : Int) == 92) = false from this]; rfl
            obtain ⟨f', rfl⟩ : ∃ f', f = f' + 1 := pred_ok f0
            have nk := next_ok h1 h3 h4 hJ1 (by decide) (one_le hJ1 c)
            have HM := hid nk.2.2.2
            have eJ := hJ1
            have HX := hid (show a < J1 ∧ J1 ≤ s.size ∧ s.size ≤ J1 + f' ∧ (acc ++ [s[j]]).length ≤ J1 ∧ goS s a f' J1 (acc ++ [s[j]]) = RV from ⟨nk.1, (one_le hJ1 c), nk.2.1, by rw [List.length_append, List.length_singleton]; exact nk.2.2.1, by rw [← eJ]; exact (goS_on s a f' j 1 s[j] acc h1 c q (by decide) (sp_one s j c v1 v2 b)).symm.trans hgo⟩)
            have HL := hid (len_ok h4 h2 HS.out)
            have HO := hid hown
            have HN := hid hN
            clear hgo hown hN h1 h2 h3 h4 f0 q v1 v2 b eJ nk hJ1
            obtain ⟨w1, w2⟩ := HW1.out
            clear HW1
            go_wp2_with ((at_builtin; refine wpList_append_own _ rfl _ _ 54 rfl w.heap.size 5 i0 (.int .u8 0) 1 1 Tryd.underlying54 hi hz0 hz1 hz2 rfl (by decide) _ _ _ rfl (HO.out.alloc _) ⟨_, 0, none⟩ 1 1 [.int .u8 s[j].toNat] rfl rfl ?ed1 ?ed2 ?ed3 ?ed4 ?ed5 ?_))
            case ed2 => first | (intro u hu; simp at hu; subst hu; rfl) | rfl | (simp; done)
            case ed3 => have := HL.out; first | omega | (unfold maxLen; omega)
            case ed4 => have := HL.out; omega
            case ed5 => have := HN.out.bel.size; first | omega | (simp; omega)
            · intro v' w1 hown' hgrow _
              have R1 := hid (bytesV_snoc acc s[j] s[j].toNat rfl)
              have RN := hid ((HN.out.go ((Below.refl _ _).alloc (Nat.le_refl _) (.cells #[.int .u8 s[j].toNat] 5))).grown (HO.out.alloc _) hgrow (fun k e => (HO.out.lt k e).1))
              clear hgrow HO HN
              go_wp2
              go_roundw
              case rel => exact ⟨J1, f', acc ++ [s[j]], by first | rfl | go_num, HX.out.1, HX.out.2.1, HX.out.2.2.1, HX.out.2.2.2.1, HX.out.2.2.2.2, by have := R1.out; rw [this, List.length_append]; exact hown', RN.out⟩
              case measure => exact meas_to HM.out HX.out.2.1
    · have c1 : ¬ (j : Int) < (s.size : Int) := fun q => c (Int.ofNat_lt.1 q)
      have HR := hid ((goS_end s a f j acc h1 c).symm.trans hgo)
      clear hgo hown h1 h2 h3 h4 c
      go_wp2_with (go_at_call 19; (with_reducible refine (cf _).mono ?_); rintro e W2 ⟨rfl, hb⟩; (replace hN := hN.go hb); clear hb; (have k0 : W2.cell? ⟨w.heap.size, 0, none⟩ = some (.int .i64 0) := row_cellsX hN.h4 0); (have k1 : W2.cell? ⟨w.heap.size, 1, none⟩ = some (.int .i64 0) := row_cellsX hN.h4 1); (have k2 : W2.cell? ⟨w.heap.size, 2, none⟩ = some (.string ⟨#[]⟩) := row_cellsX hN.h4 2); (have k3 : W2.cell? ⟨w.heap.size, 3, none⟩ = some (.int .i64 0) := row_cellsX hN.h4 3); (have k4 : W2.cell? ⟨w.heap.size, 4, none⟩ = some (.int .u64 0) := row_cellsX hN.h4 4); (have k5 : W2.cell? ⟨w.heap.size + 1, 0, none⟩ = some (.int .i64 0) := row_cellsX hN.h6 0); (have k6 : W2.cell? ⟨w.heap.size + 1, 1, none⟩ = some (.int .i64 0) := row_cellsX hN.h6 1); (have z4 := row_thawX hN.h4); (have z6 := row_thawX hN.h6); (have HN2 := hid hN); clear hN)
      refine bodyPost_ret (nx_ret rfl _ _ w.heap.size (w.heap.size + 1) _ _ _ _ _ _ _ _ (0, 0) (0, 0) rfl rfl rfl (HN2.out.fin _ _ _ _ _ _ _).1 (HN2.out.fin _ _ _ _ _ _ _).2.1) rfl ?_
      exact ⟨by rw [← HR.out]; rfl, (HN2.out.fin _ _ _ _ _ _ _).2.2⟩
end Go.Proofs.YtdoojooepkdlhaaDoor.W
/- casketref11: All. -/
namespace Go.Proofs.YtdoojooepkdlhaaDoor.W
open Go.ChangeShapes Go.WideShapes Go.RowKit Go.Shelf
set_option linter.unusedVariables false
set_option linter.unusedSimpArgs false
def No7 (p : Pc) : Prop := p.t.kind ≠ 7
theorem no7_or {a b : Pc} (ha : No7 a) (hb : No7 b) : No7 (orPc a b) := by
  unfold orPc
  split
  · exact hb
  · exact ha
theorem no7_quote : ∀ (f : Nat) (r : List UInt8) (k : Nat) (acc : List UInt8), No7 (quoteGo f r k acc)
  | 0, r, k, acc => by unfold quoteGo; show (0 : Int) ≠ 7; decide
  | f + 1, [], k, acc => by rw [quote_end]; show (0 : Int) ≠ 7; decide
  | f + 1, c :: q, k, acc => by
    by_cases c1 : c = 34
    · rw [quote_stop (f + 1) k c q acc (by omega) c1]
      show (6 : Int) ≠ 7; decide
    · by_cases c2 : (speltP (c :: q)).2 = 0
      · rw [quote_bad (f + 1) k c q acc (by omega) c1 c2]
        show (0 : Int) ≠ 7; decide
      · rw [quote_on f k c q acc c1 c2]
        exact no7_quote f _ _ _
theorem rest_no7 (r : List UInt8) : No7 (restP r) := by
  have z : ∀ n c, No7 (badPc n c) := fun n c => show (0 : Int) ≠ 7 by decide
  have zn : No7 noPc := show (0 : Int) ≠ 7 by decide
  unfold restP
  refine no7_or ?_ (no7_or ?_ (no7_or ?_ (no7_or ?_ ?_)))
  · unfold nameP
    split
    · exact zn
    · split
      · exact z _ _
      · show (namedT _).kind ≠ 7
        unfold namedT
        split
        · show (5 : Int) ≠ 7; decide
        · split
          · show (5 : Int) ≠ 7; decide
          · split
            · show (2 : Int) ≠ 7; decide
            · show (1 : Int) ≠ 7; decide
  · unfold doubleP
    split
    · split
      · show (5 : Int) ≠ 7; decide
      · exact z _ _
    · exact zn
  · unfold wholeP
    split
    · exact zn
    · split
      · show (4 : Int) ≠ 7; decide
      · exact z _ _
  · unfold quotedP
    split
    · exact no7_quote _ _ _ _
    · exact zn
  · unfold markP
    split
    · show (3 : Int) ≠ 7; decide
    · exact zn
/-- what Next says of a place, and what is told from there on -/
def NextF (l : List UInt8) (k : Nat) (t : Tk) (x y c f : Int) : Prop :=
  (c ≠ 0 ∧ T (l.drop k) k = [⟨noTk, 0, c, f⟩]) ∨ (c = 0 ∧ f = 0 ∧ t.kind = 7 ∧ T (l.drop k) k = [⟨t, x, 0, 0⟩]) ∨ (c = 0 ∧ f = 0 ∧ t.kind ≠ 7 ∧ ∃ m : Nat, y = (m : Int) ∧ k < m ∧ m ≤ l.length ∧ T (l.drop k) k = ⟨t, x, 0, 0⟩ :: T (l.drop m) m)
theorem next_form (l : List UInt8) (k : Nat) (hk : k ≤ l.length) (h : NoGap (l.drop k)) : ∃ t x y c f, nextR (l.drop k) k = .tuple #[tv t x, .int .i64 y, .agg #[.int .i64 c, .int .i64 f]] ∧ NextF l k t x y c f := by
  unfold nextR
  by_cases e : l.drop k = []
  · rw [if_pos e]
    refine ⟨_, _, _, _, _, rfl, .inr (.inl ⟨rfl, rfl, rfl, ?_⟩)⟩
    rw [e, T_nil]
  · rw [if_neg e]
    have hp := piece_rest _ h
    have hst := T_step (r := l.drop k) (a := k) e
    rw [hp] at hst
    have hle := piece_le (l.drop k)
    rw [hp, List.length_drop] at hle
    unfold nxR
    by_cases c1 : (restP (l.drop k)).size = 0
    · rw [if_pos c1]
      rw [if_pos c1] at hst
      exact ⟨_, _, _, _, _, rfl, .inl ⟨by decide, hst⟩⟩
    · rw [if_neg c1]
      rw [if_neg c1] at hst
      by_cases c2 : (restP (l.drop k)).code = 0
      · rw [if_neg (fun h => h c2)]
        rw [if_neg (fun h => h c2)] at hst
        have k0 : (restP (l.drop k)).t.kind ≠ 0 := rest_tok _ c1 c2
        rw [if_pos k0] at hst
        refine ⟨_, _, _, _, _, rfl, .inr (.inr ⟨rfl, rfl, rest_no7 _, k + (restP (l.drop k)).size, rfl, by omega, by omega, ?_⟩)⟩
        rw [hst, List.drop_drop]
      · rw [if_pos c2]
        rw [if_pos c2] at hst
        exact ⟨_, _, _, _, _, rfl, .inl ⟨c2, hst⟩⟩
theorem all_ret2 {fn : Func} {p q : Tmp} (h : fn.results = #[.tmp p, .cell q 25]) (tmps : Array Value) (w : World) (b3 : Nat) (v c a : Value) (fr' : Nat × Nat) (hp : tmps.getD p undef = v) (hq : tmps.getD q undef = .pointer (some ⟨b3, 0, none⟩)) (hg3 : w.heap[b3]? = some (.cells #[c, a] 25 fr')) : (results fn tmps).run Tryd.prog w = .ok (.tuple #[v, .agg #[c, a]]) w := by
  obtain ⟨d, hu, hd⟩ := ftT
  have hl := run_loadVar_row (P := Tryd.prog) w b3 25 25 #[c, a] fr' d hg3 hu (by cases d <;> first | rfl | exact hd) (by rw [ftSz]; rfl)
  have hp' : tmps[p]?.getD undef = v := by simpa using hp
  have hq' : tmps[q]?.getD undef = .pointer (some ⟨b3, 0, none⟩) := by simpa using hq
  simp [results, h, hp', hq', asAddr, hl]
theorem find_last' (ts : List Yd) (z : Yd) (h : ∀ y ∈ ts, y.c = 0) (hz : z.c ≠ 0) : (ts ++ [z]).find? (fun y => y.c != 0) = some z := by
  rw [List.find?_append]
  have h1 : ts.find? (fun y => y.c != 0) = none := by
    rw [List.find?_eq_none]
    intro y hy
    simp [h y hy]
  rw [h1]
  have h2 : (z.c != 0) = true := by simp [hz]
  simp [h2]
theorem rows_one (ts : List Yd) (t : Tk) (x : Int) : rowsY (ts ++ [⟨t, x, 0, 0⟩]) = rowsY ts ++ [.int .i64 t.kind, .int .i64 x, .string t.text, .int .i64 t.int, .int .u64 t.bits] := by
  unfold rowsY
  rw [List.flatMap_append]
  rfl
/-- what stays along the rounds -/
structure RaI (w W : World) : Prop where
  bel : Below w.heap.size w W
  h3 : W.heap[w.heap.size]? = some (.cells #[.int .i64 0, .int .i64 0] 25 (0, 0))
theorem RaI.go {w W W' : World} (h : RaI w W) (hb : Below W.heap.size W W') : RaI w W' := ⟨h.bel.trans (hb.mono h.bel.size), row_keepX h.h3 hb⟩
set_option maxRecDepth 100000 in
set_option maxHeartbeats 1000000 in
theorem rAll_core (s : ByteArray) (hs : s.size ≤ 65536) (cb : ∀ (a : Nat), a ≤ s.size → ∀ w, Calls Tryd.prog 9 #[.string s, .int .i64 a] w fun e w' => w' = w ∧ ∃ k : Nat, e = .returned (.int .i64 k) ∧ a ≤ k ∧ k ≤ s.size ∧ T (s.data.toList.drop a) a = T (s.data.toList.drop k) k ∧ NoGap (s.data.toList.drop k))
    (cx : ∀ (k : Nat), k ≤ s.size → NoGap (s.data.toList.drop k) → ∀ w, Calls Tryd.prog 10 #[.string s, .int .i64 k] w fun e w' => (∃ t x y c f, e = .returned (.tuple #[.agg #[.int .i64 t.kind, .int .i64 x, .string t.text, .int .i64 t.int, .int .u64 t.bits], .int .i64 y, .agg #[.int .i64 c, .int .i64 f]]) ∧ NextF s.data.toList k t x y c f) ∧ Below w.heap.size w w') (w : World) :
    Calls Tryd.prog 4 #[.string s] w fun e w' => Below w.heap.size w w' ∧ AllR (T s.data.toList 0) w.heap.size e w' := by
  have z0 : ¬ (s.size : Int) > 65536 := by omega
  have hI : RaI w (w.alloc (.cells #[.int .i64 0, .int .i64 0] 25)) := ⟨(Below.refl _ w).alloc (Nat.le_refl _) _, World.alloc_heap_new w _⟩
  have HS := hid hs
  have CB := hid cb
  have CX := hid cx
  obtain ⟨i0, hi, hz0, hz1, hz2⟩ := info_parts infoTk
  clear hs cb cx
  go_enter Tryd.func4, Tryd.ntmps4
  go_upto_region 1 with fail
  generalize World.alloc w _ = W at *
  go_wp2_with fail
  clear z0
  go_loopw [4, 5] (fun v i wr => ∃ (k : Nat) (ts : List Yd), i = .int .i64 k ∧ k ≤ s.size ∧ T s.data.toList 0 = ts ++ T (s.data.toList.drop k) k ∧ (∀ y ∈ ts, y.c = 0) ∧ ts.length ≤ k ∧ wr.ownsRow w.heap.size 30 5 v ts.length (rowsY ts) ∧ RaI w wr) (fun _ i _ => s.size - (intOf i).toNat)
  case atStart => exact ⟨0, [], rfl, Nat.zero_le _, rfl, by simp, Nat.zero_le _, World.ownsRow_nil _ _ _ _, hI⟩
  case round =>
    obtain ⟨k, ts, rfl, hk, hT, hts, htl, hown, hJ⟩ := hrel
    obtain ⟨o9, c9, hv⟩ := slice_ofX hown
    subst hv
    have cbk := CB.out k hk
    have HT := hid (And.intro hT (And.intro hts htl))
    have HO := hid hown
    clear hT hts htl hown CB
    go_upto_region 7 with (first | (go_at_call 9; (with_reducible refine (cbk _).mono ?_); rintro e w' ⟨hw', k1, rfl, g1, g2, g3, g4⟩; (have hw2 := hw'.symm); subst hw2; clear hw'; (have cxk := CX.out k1 g2 g4); (have G := hid (And.intro g1 (And.intro g2 g3))); clear g1 g2 g3 g4 CX cbk) | (go_at_call 10; (with_reducible refine (cxk _).mono ?_); rintro e Wn ⟨⟨t, x, y, c, f, rfl, hF⟩, hb⟩; (have HB := hid hb); (have HF := hid hF); clear hb hF cxk))
    have hB2 : Below Wn.heap.size Wn ((Wn.alloc (.cells #[.int .i64 t.kind, .int .i64 x, .string t.text, .int .i64 t.int, .int .u64 t.bits] 30)).alloc (.cells #[.int .i64 c, .int .i64 f] 25)) := ((Below.refl _ Wn).alloc (Nat.le_refl _) _).alloc (by simp) _
    have f6 : Blk ((Wn.alloc (.cells #[.int .i64 t.kind, .int .i64 x, .string t.text, .int .i64 t.int, .int .u64 t.bits] 30)).alloc (.cells #[.int .i64 c, .int .i64 f] 25)) Wn.heap.size #[.int .i64 t.kind, .int .i64 x, .string t.text, .int .i64 t.int, .int .u64 t.bits] := (Blk.new Wn _ _).alloc _
    have f8 : Blk ((Wn.alloc (.cells #[.int .i64 t.kind, .int .i64 x, .string t.text, .int .i64 t.int, .int .u64 t.bits] 30)).alloc (.cells #[.int .i64 c, .int .i64 f] 25)) (Wn.heap.size + 1) #[.int .i64 c, .int .i64 f] := by
      have := Blk.new (Wn.alloc (.cells #[.int .i64 t.kind, .int .i64 x, .string t.text, .int .i64 t.int, .int .u64 t.bits] 30)) #[.int .i64 c, .int .i64 f] 25
      rwa [World.size_alloc] at this
    generalize World.alloc (World.alloc Wn _) _ = W2 at *
    have hBw : Below wr.heap.size wr W2 := HB.out.trans (hB2.mono HB.out.size)
    have hJ2 := hJ.go hBw
    have hO2 := own_keepX HO.out hBw
    have HB6 := hid HB.out.size
    have hlow : w.heap.size < Wn.heap.size := by have := (Array.getElem?_eq_some_iff.1 hJ.h3).1; have := HB.out.size; omega
    generalize Wn.heap.size = b6 at *
    have q0 : W2.cell? ⟨b6, 0, none⟩ = some (.int .i64 t.kind) := f6.cells 0
    have q1 : W2.cell? ⟨b6, 1, none⟩ = some (.int .i64 x) := f6.cells 1
    have q2 : W2.cell? ⟨b6, 2, none⟩ = some (.string t.text) := f6.cells 2
    have q3 : W2.cell? ⟨b6, 3, none⟩ = some (.int .i64 t.int) := f6.cells 3
    have q4 : W2.cell? ⟨b6, 4, none⟩ = some (.int .u64 t.bits) := f6.cells 4
    have q5 : W2.cell? ⟨b6 + 1, 0, none⟩ = some (.int .i64 c) := f8.cells 0
    have q6 : W2.cell? ⟨b6 + 1, 1, none⟩ = some (.int .i64 f) := f8.cells 1
    have k5 : W2.cell? ⟨w.heap.size, 0, none⟩ = some (.int .i64 0) := row_cellsX hJ2.h3 0
    have k6 : W2.cell? ⟨w.heap.size, 1, none⟩ = some (.int .i64 0) := row_cellsX hJ2.h3 1
    have z6 := row_thawX hJ2.h3
    have HJ := hid hJ2
    have HO2 := hid hO2
    have N6 := hid (show (Value.slice o9 ts.length c9).ownBlock ≠ some b6 from fun e => by have := (HO.out.lt b6 e).2; have := HB6.out; omega)
    have nb : ¬ b6 + 1 = w.heap.size := by omega
    have nb2 : ¬ b6 = w.heap.size := by omega
    clear hB2 f6 f8 hBw hJ hJ2 hO2 HO HB hlow hI
    rcases HF.out with ⟨hc, hT1⟩ | ⟨hc, hf, h7, hT1⟩ | ⟨hc, hf, h7, m, hy, hm1, hm2, hT1⟩
    · have HR := hid (show (T s.data.toList 0).find? (fun y => y.c != 0) = some ⟨noTk, 0, c, f⟩ by
        rw [HT.out.1, G.out.2.2, hT1]
        exact find_last' ts _ HT.out.2.1 hc)
      clear hT1 HF HT G HO2
      go_upto_region 8 with fail
      go_region
      go_wp2
      have g3 : ((W2.setCell ⟨w.heap.size, 0, none⟩ (.int .i64 c)).setCell ⟨w.heap.size, 1, none⟩ (.int .i64 f)).drew.heap[w.heap.size]? = some (.cells #[.int .i64 c, .int .i64 f] 25 (0, 0)) := heap_setX (c := [.int .i64 c, .int .i64 0]) (heap_setX (c := [.int .i64 0, .int .i64 0]) HJ.out.h3 0 (.int .i64 c)) 1 (.int .i64 f)
      refine bodyPost_ret (all_ret2 rfl _ _ w.heap.size _ _ _ (0, 0) rfl rfl g3) rfl ?_
      exact ⟨((HJ.out.bel.setCell (p := ⟨w.heap.size, 0, none⟩) (Nat.le_refl _) _).setCell (p := ⟨w.heap.size, 1, none⟩) (Nat.le_refl _) _).drew, .inl ⟨_, HR.out, rfl⟩⟩
    · subst hc hf
      have H7 := hid h7
      clear h7
      have HR := hid (And.intro (show T s.data.toList 0 = ts ++ [⟨t, x, 0, 0⟩] by rw [HT.out.1, G.out.2.2, hT1]) HT.out.2.1)
      have HTL := hid (show ts.length ≤ 65536 by have := HT.out.2.2; have := HS.out; omega)
      clear hT1 HF HT G
      go_wp2_with (first | (at_builtin; refine wpList_append_own _ rfl _ _ 22 rfl w.heap.size 30 i0 _ 5 48 rowT hi hz0 hz1 hz2 rfl (by decide) _ _ _ rfl (HO2.out.alloc _) ⟨_, 0, none⟩ 1 1 [.int .i64 t.kind, .int .i64 x, .string t.text, .int .i64 t.int, .int .u64 t.bits] rfl rfl ?c1 ?c2 ?c3 ?c4 ?c5 ?_))
      case c1 =>
        intro j u hj
        match j, hj with
        | 0, hj => simp at hj; subst hj; simp [Addr.add]
        | 1, hj => simp at hj; subst hj; simp [Addr.add]
        | 2, hj => simp at hj; subst hj; simp [Addr.add]
        | 3, hj => simp at hj; subst hj; simp [Addr.add]
        | 4, hj => simp at hj; subst hj; simp [Addr.add]
      case c2 => intro u hu; simp at hu; rcases hu with rfl | rfl | rfl | rfl | rfl <;> rfl
      case c3 => have := HTL.out; unfold maxLen; omega
      case c4 => have := HTL.out; omega
      case c5 => have := HJ.out.bel.size; simp; omega
      · intro v' w1 hown' hgrow _
        obtain ⟨o8, c8, hv8⟩ := slice_ofX hown'
        subst hv8
        have ub : Below w.heap.size w w1 := (HJ.out.bel.alloc (by have := HJ.out.bel.size; omega) _).grown hgrow (by have := HJ.out.bel.size; simp; omega) (fun g hg => (HO2.out.lt g hg).1)
        have upd : It.Upd (fun j => (Value.slice o9 ts.length c9).ownBlock = some j) W2 w1 := (It.Upd.of_below ((Below.refl _ W2).alloc (Nat.le_refl _) _)).trans' ((It.Upd.refl _ _).grown hgrow (fun j e => .inl e))
        have h3 : w1.heap[w.heap.size]? = some (.cells #[.int .i64 0, .int .i64 0] 25 (0, 0)) := (upd.block _ (Array.getElem?_eq_some_iff.1 HJ.out.h3).1 (fun e => own_neX HO2.out HJ.out.h3 (by decide) e)).trans HJ.out.h3
        have h6 : w1.cell? ⟨b6, 0, none⟩ = some (.int .i64 t.kind) := by
          have : w1.heap[b6]? = W2.heap[b6]? := upd.block _ (World.block_lt_of_cell? W2 _ q0) (fun e => N6.out e)
          rw [World.cell?_of_block this]; exact q0
        have k5 : w1.cell? ⟨w.heap.size, 0, none⟩ = some (.int .i64 0) := row_cellsX h3 0
        have k6 : w1.cell? ⟨w.heap.size, 1, none⟩ = some (.int .i64 0) := row_cellsX h3 1
        have z6 := row_thawX h3
        have HOW := hid hown'
        have HUB := hid ub
        have H3 := hid h3
        clear hown' hgrow ub upd h3 q0 q1 q2 q3 q4 q5 q6 HJ
        have h7 := H7.out
        go_wp2
        have g3 : ((w1.setCell ⟨w.heap.size, 0, none⟩ (.int .i64 0)).setCell ⟨w.heap.size, 1, none⟩ (.int .i64 0)).heap[w.heap.size]? = some (.cells #[.int .i64 0, .int .i64 0] 25 (0, 0)) := heap_setX (c := [.int .i64 0, .int .i64 0]) (heap_setX (c := [.int .i64 0, .int .i64 0]) H3.out 0 (.int .i64 0)) 1 (.int .i64 0)
        refine bodyPost_ret (all_ret2 rfl _ _ w.heap.size _ _ _ (0, 0) rfl rfl g3) rfl ?_
        refine ⟨(HUB.out.setCell (p := ⟨w.heap.size, 0, none⟩) (Nat.le_refl _) _).setCell (p := ⟨w.heap.size, 1, none⟩) (Nat.le_refl _) _, .inr ⟨?_, _, rfl, ?_⟩⟩
        · rw [HR.out.1]
          intro z hz
          rcases List.mem_append.1 hz with hz | hz
          · exact HR.out.2 z hz
          · simp only [List.mem_singleton] at hz; rw [hz]
        · rw [HR.out.1, rows_one, List.length_append]
          refine owns_onX HOW.out (fun j e => ?_)
          have hj : j ≠ w.heap.size := fun e2 => own_neX HOW.out H3.out (by decide) (e.trans (congrArg some e2))
          exact (Below.heap_setCell _ _ _ _ (by show j ≠ w.heap.size; exact hj)).trans (Below.heap_setCell _ _ _ _ (by show j ≠ w.heap.size; exact hj))
    · subst hc hf hy
      have HR := hid (And.intro (show T s.data.toList 0 = (ts ++ [⟨t, x, 0, 0⟩]) ++ T (s.data.toList.drop m) m by rw [HT.out.1, G.out.2.2, hT1, List.append_assoc]; rfl) HT.out.2.1)
      have HTL := hid (show ts.length ≤ 65536 by have := HT.out.2.2; have := HS.out; omega)
      have HM := hid (show k < m ∧ m ≤ s.size ∧ ts.length + 1 ≤ m by have := HT.out.2.2; have := G.out.1; rw [size_list] at hm2; exact ⟨by omega, hm2, by omega⟩)
      clear hT1 HF HT G hm1 hm2
      go_wp2_with (first | (at_builtin; refine wpList_append_own _ rfl _ _ 22 rfl w.heap.size 30 i0 _ 5 48 rowT hi hz0 hz1 hz2 rfl (by decide) _ _ _ rfl (HO2.out.alloc _) ⟨_, 0, none⟩ 1 1 [.int .i64 t.kind, .int .i64 x, .string t.text, .int .i64 t.int, .int .u64 t.bits] rfl rfl ?c1 ?c2 ?c3 ?c4 ?c5 ?_))
      case c1 =>
        intro j u hj
        match j, hj with
        | 0, hj => simp at hj; subst hj; simp [Addr.add]
        | 1, hj => simp at hj; subst hj; simp [Addr.add]
        | 2, hj => simp at hj; subst hj; simp [Addr.add]
        | 3, hj => simp at hj; subst hj; simp [Addr.add]
        | 4, hj => simp at hj; subst hj; simp [Addr.add]
      case c2 => intro u hu; simp at hu; rcases hu with rfl | rfl | rfl | rfl | rfl <;> rfl
      case c3 => have := HTL.out; unfold maxLen; omega
      case c4 => have := HTL.out; omega
      case c5 => have := HJ.out.bel.size; simp; omega
      · intro v' w1 hown' hgrow _
        obtain ⟨o8, c8, hv8⟩ := slice_ofX hown'
        subst hv8
        have ub : Below w.heap.size w w1 := (HJ.out.bel.alloc (by have := HJ.out.bel.size; omega) _).grown hgrow (by have := HJ.out.bel.size; simp; omega) (fun g hg => (HO2.out.lt g hg).1)
        have upd : It.Upd (fun j => (Value.slice o9 ts.length c9).ownBlock = some j) W2 w1 := (It.Upd.of_below ((Below.refl _ W2).alloc (Nat.le_refl _) _)).trans' ((It.Upd.refl _ _).grown hgrow (fun j e => .inl e))
        have h3 : w1.heap[w.heap.size]? = some (.cells #[.int .i64 0, .int .i64 0] 25 (0, 0)) := (upd.block _ (Array.getElem?_eq_some_iff.1 HJ.out.h3).1 (fun e => own_neX HO2.out HJ.out.h3 (by decide) e)).trans HJ.out.h3
        have h6 : w1.cell? ⟨b6, 0, none⟩ = some (.int .i64 t.kind) := by
          have : w1.heap[b6]? = W2.heap[b6]? := upd.block _ (World.block_lt_of_cell? W2 _ q0) (fun e => N6.out e)
          rw [World.cell?_of_block this]; exact q0
        have k5 : w1.cell? ⟨w.heap.size, 0, none⟩ = some (.int .i64 0) := row_cellsX h3 0
        have k6 : w1.cell? ⟨w.heap.size, 1, none⟩ = some (.int .i64 0) := row_cellsX h3 1
        have z6 := row_thawX h3
        have HOW := hid hown'
        have HUB := hid ub
        have H3 := hid h3
        clear hown' hgrow ub upd h3 q0 q1 q2 q3 q4 q5 q6 HJ
        go_wp2
        go_roundw
        case rel =>
          refine ⟨m, ts ++ [⟨t, x, 0, 0⟩], rfl, HM.out.2.1, HR.out.1, ?_, by rw [List.length_append]; exact HM.out.2.2, ?_, ⟨HUB.out, H3.out⟩⟩
          · intro z hz
            rcases List.mem_append.1 hz with hz | hz
            · exact HR.out.2 z hz
            · simp only [List.mem_singleton] at hz; rw [hz]
          · rw [rows_one, List.length_append]; exact HOW.out
        case measure => have := HM.out; simp [intOf]; omega
end Go.Proofs.YtdoojooepkdlhaaDoor.W
/- casketref11: strings, Next and All of whatever source; what a round of 'goes' finds. -/
namespace Go.Proofs.YtdoojooepkdlhaaDoor.W
open Go.ChangeShapes Go.WideShapes Go.RowKit Go.Shelf
set_option linter.unusedVariables false
set_option linter.unusedSimpArgs false
theorem rText_c (s : ByteArray) (hs : s.size ≤ 1000000) (a : Nat) (ha : a < s.size) (hq : s[a].toNat = 34) (w : World) :
    Calls Tryd.prog 17 #[.string s, .int .i64 a] w fun e w' => e = .returned (nxR (quotedP (s.data.toList.drop a)) a) ∧ Below w.heap.size w w' := by
  refine (rText_core s hs a (s.size - a) ha (by omega) _ rfl w).mono ?_
  rintro e w' ⟨rfl, hb⟩
  refine ⟨?_, hb⟩
  have e1 : quotedP (s.data.toList.drop a) = quoteGo (s.size - a) (s.data.toList.drop (a + 1)) 1 [] := by
    unfold quotedP
    rw [if_pos (by rw [drop_cons s a ha, u8_is hq]; rfl), List.length_drop, size_list, List.drop_drop]
  unfold goS
  rw [e1, show a + 1 - a = 1 by omega]
theorem rNext_any (s : ByteArray) (hs : s.size ≤ 1000000) (a : Nat) (ha : a ≤ s.size) (w : World) :
    Calls Tryd.prog 10 #[.string s, .int .i64 a] w fun e w' => e = .returned (nextR (s.data.toList.drop a) a) ∧ Below w.heap.size w w' :=
  rNext_c s hs a ha (fun h hd w => rNumber_c s hs a h hd w) (fun h hq w => rText_c s hs a h hq w) w
theorem rAll_any (s : ByteArray) (hs : s.size ≤ 65536) (w : World) :
    Calls Tryd.prog 4 #[.string s] w fun e w' => Below w.heap.size w w' ∧ AllR (T s.data.toList 0) w.heap.size e w' := by
  refine rAll_core s hs (fun a ha w => rBlank_c s (by omega) a ha w) (fun k hk hg w => ?_) w
  obtain ⟨t, x, y, c, f, h1, h2⟩ := next_form s.data.toList k (by rw [size_list]; exact hk) hg
  refine (rNext_any s (by omega) k hk w).mono ?_
  rintro e w' ⟨rfl, hb⟩
  exact ⟨⟨t, x, y, c, f, by rw [h1]; rfl, h2⟩, hb⟩
/-- what a round of 'goes' finds: the token that was told, and how it goes on -/
theorem goes_step (l : List UInt8) (k : Nat) (hk : k ≤ l.length) (h : NoGap (l.drop k)) (y : Yd) (rest : List Yd) (hT : T (l.drop k) k = y :: rest) :
    ∃ to' : Int, nextR (l.drop k) k = .tuple #[tv y.t y.a, .int .i64 to', .agg #[.int .i64 y.c, .int .i64 y.f]] ∧
      ((y.c ≠ 0 ∧ rest = []) ∨ (y.c = 0 ∧ y.t.kind = 7 ∧ rest = []) ∨ (y.c = 0 ∧ y.t.kind ≠ 7 ∧ ∃ m : Nat, to' = (m : Int) ∧ m ≤ l.length ∧ rest = T (l.drop m) m)) := by
  unfold nextR
  by_cases e : l.drop k = []
  · rw [if_pos e]
    rw [e, T_nil] at hT
    simp only [List.cons.injEq] at hT
    obtain ⟨rfl, rfl⟩ := hT
    exact ⟨_, rfl, .inr (.inl ⟨rfl, rfl, rfl⟩)⟩
  · rw [if_neg e]
    have hp := piece_rest _ h
    have hst := T_step (r := l.drop k) (a := k) e
    rw [hp, hT] at hst
    have hle := piece_le (l.drop k)
    rw [hp, List.length_drop] at hle
    unfold nxR
    by_cases c1 : (restP (l.drop k)).size = 0
    · rw [if_pos c1]
      rw [if_pos c1] at hst
      simp only [List.cons.injEq] at hst
      obtain ⟨rfl, rfl⟩ := hst
      exact ⟨_, rfl, .inl ⟨(show (60 : Int) ≠ 0 by decide), rfl⟩⟩
    · rw [if_neg c1]
      rw [if_neg c1] at hst
      by_cases c2 : (restP (l.drop k)).code = 0
      · rw [if_neg (fun h => h c2)]
        rw [if_neg (fun h => h c2)] at hst
        have k0 : (restP (l.drop k)).t.kind ≠ 0 := rest_tok _ c1 c2
        rw [if_pos k0] at hst
        simp only [List.cons.injEq] at hst
        obtain ⟨rfl, rfl⟩ := hst
        refine ⟨_, rfl, .inr (.inr ⟨rfl, rest_no7 _, k + (restP (l.drop k)).size, rfl, by omega, ?_⟩)⟩
        rw [List.drop_drop]
      · rw [if_pos c2]
        rw [if_pos c2] at hst
        simp only [List.cons.injEq] at hst
        obtain ⟨rfl, rfl⟩ := hst
        exact ⟨_, rfl, .inl ⟨c2, rfl⟩⟩
theorem T_pos (r : List UInt8) (a : Nat) : T r a ≠ [] := by
  obtain ⟨ts, z, h, _⟩ := T_form _ r a (Nat.le_refl _)
  rw [h]
  simp
/-- what both Alls answer of a source: the tokens, or a fault -/
def ansY (L : List Yd) : List Yd × Int × Int := match L.find? (fun y => y.c != 0) with
  | some y => ([], y.c, y.f)
  | none => (L, 0, 0)
theorem ans_of {L : List Yd} {B : Nat} {e : Ending} {w' : World} (h : AllR L B e w') : ∃ o cap, e = .returned (.tuple #[.slice o (ansY L).1.length cap, .agg #[.int .i64 (ansY L).2.1, .int .i64 (ansY L).2.2]]) ∧ w'.ownsRow B 30 5 (.slice o (ansY L).1.length cap) (ansY L).1.length (rowsY (ansY L).1) := by
  rcases h with ⟨y, h1, rfl⟩ | ⟨h0, v, rfl, ho⟩
  · have ea : ansY L = ([], y.c, y.f) := by unfold ansY; rw [h1]
    rw [ea]
    exact ⟨none, 0, rfl, World.ownsRow_nil _ _ _ _⟩
  · have hn : L.find? (fun y => y.c != 0) = none := by
      rw [List.find?_eq_none]
      intro y hy
      simp [h0 y hy]
    have ea : ansY L = (L, 0, 0) := by unfold ansY; rw [hn]
    rw [ea]
    obtain ⟨o, cap, rfl⟩ := slice_ofX ho
    exact ⟨o, cap, rfl, ho⟩
theorem ans_len (L : List Yd) : (ansY L).1.length ≤ L.length := by
  unfold ansY
  split <;> simp
theorem lexAll_ans (s : ByteArray) (hs : s.size ≤ 5000) (w : World) (ht : Tabs w) (hm : MarksIn w) : Calls Tryd.prog 5 #[.string s] w fun e w' => Below w.heap.size w w' ∧ ∃ o cap, e = .returned (.tuple #[.slice o (ansY (T s.data.toList 0)).1.length cap, .agg #[.int .i64 (ansY (T s.data.toList 0)).2.1, .int .i64 (ansY (T s.data.toList 0)).2.2]]) ∧ w'.ownsRow w.heap.size 30 5 (.slice o (ansY (T s.data.toList 0)).1.length cap) (ansY (T s.data.toList 0)).1.length (rowsY (ansY (T s.data.toList 0)).1) := by
  refine (all_c s (by omega) w ht hm).mono ?_
  rintro e w' ⟨hb, h⟩
  rw [src_T _ (by rw [size_list]; omega)] at h
  exact ⟨hb, ans_of h⟩
theorem refAll_ans (s : ByteArray) (hs : s.size ≤ 5000) (w : World) : Calls Tryd.prog 4 #[.string s] w fun e w' => Below w.heap.size w w' ∧ ∃ o cap, e = .returned (.tuple #[.slice o (ansY (T s.data.toList 0)).1.length cap, .agg #[.int .i64 (ansY (T s.data.toList 0)).2.1, .int .i64 (ansY (T s.data.toList 0)).2.2]]) ∧ w'.ownsRow w.heap.size 30 5 (.slice o (ansY (T s.data.toList 0)).1.length cap) (ansY (T s.data.toList 0)).1.length (rowsY (ansY (T s.data.toList 0)).1) := by
  refine (rAll_any s (by omega) w).mono ?_
  rintro e w' ⟨hb, h⟩
  exact ⟨hb, ans_of h⟩
end Go.Proofs.YtdoojooepkdlhaaDoor.W
/- casketlaw11.goes: what stays along its rounds. -/
namespace Go.Proofs.YtdoojooepkdlhaaDoor.W
open Go.ChangeShapes Go.WideShapes Go.RowKit Go.Shelf
set_option linter.unusedVariables false
theorem boolT : Tryd.prog.underlying 4 = some .bool := by kernel_rfl
theorem load_bool (w : World) (b : Nat) (v : Value) (h : w.cell? ⟨b, 0, none⟩ = some v) : (loadVar 4 ⟨b, 0, none⟩).run Tryd.prog w = .ok v w := by
  simp [loadVar, isAgg, run_underlying boolT, h, go_sem]
theorem bool_ret {fn : Func} {p : Tmp} (h : fn.results = #[.cell p 4]) (tmps : Array Value) (w : World) (b : Nat) (v : Value) (fr : Nat × Nat) (t2 : TypeId) (hp : tmps.getD p undef = .pointer (some ⟨b, 0, none⟩)) (hg : w.heap[b]? = some (.cells #[v] t2 fr)) : (results fn tmps).run Tryd.prog w = .ok v w := by
  have hl := load_bool w b v (cell_of_row w b 0 _ _ _ hg)
  have hp' : tmps[p]?.getD undef = .pointer (some ⟨b, 0, none⟩) := by simpa using hp
  simp [results, h, hp', asAddr, hl]
/-- along goes: i tokens were told -/
structure GoI (w : World) (s : ByteArray) (stop : Int) (Ys : List Yd) (i : Nat) (D : Nat → Prop) (W : World) : Prop where
  bel : Below w.heap.size w W
  sz : w.heap.size + 7 ≤ W.heap.size
  b0 : W.heap[w.heap.size]? = some (.cells #[.string s] 9 (0, 0))
  b1 : W.heap[w.heap.size + 1]? = some (.cells #[.int .i64 stop] 3 (0, 0))
  b2 : W.heap[w.heap.size + 2]? = some (.cells #[.bool false] 4 (0, 0))
  b6 : W.heap[w.heap.size + 6]? = some (.cells #[.string s] 9 (0, 0))
  b4 : W.heap[w.heap.size + 4]? = some (.cells #[.int .i64 (i : Int)] 3 (0, 0))
  st : ∃ (p : Int) (en : Bool), W.heap[w.heap.size + 3]? = some (.cells #[.int .i64 p] 3 (0, 0)) ∧ W.heap[w.heap.size + 5]? = some (.cells #[.bool en] 4 (0, 0)) ∧ ((en = false ∧ ∃ k : Nat, p = (k : Int) ∧ k ≤ s.size ∧ T (s.data.toList.drop k) k = Ys.drop i) ∨ (en = true ∧ Ys.drop i = []))
  dd : ∀ k, D k ↔ k = w.heap.size + 3 ∨ k = w.heap.size + 4 ∨ k = w.heap.size + 5
/-- how goes ends early -/
structure GoX (w : World) (c : Code) (W : World) : Prop where
  code : c = .ret
  bel : Below w.heap.size w W
  sz : w.heap.size + 7 ≤ W.heap.size
  b2 : W.heap[w.heap.size + 2]? = some (.cells #[.bool true] 4 (0, 0))
section
variable {w W W' : World} {s : ByteArray} {stop : Int} {Ys : List Yd} {i : Nat} {D : Nat → Prop}
theorem GoI.upd (q : GoI w s stop Ys i D W) (hu : It.Upd (fun k => k = w.heap.size + 8) W W') : GoI w s stop Ys i D W' := by
  obtain ⟨p, en, h1, h2, h3⟩ := q.st
  have z := q.sz
  have kp : ∀ k o, k < w.heap.size + 7 → W.heap[k]? = some o → W'.heap[k]? = some o := fun k o hk e => (hu.block k (by omega) (by omega)).trans e
  exact ⟨⟨hu.os.trans q.bel.os, hu.tape.trans q.bel.tape, hu.output.trans q.bel.output, Nat.le_trans q.bel.size hu.size, fun k hk => (hu.block k (by omega) (by omega)).trans (q.bel.block k hk)⟩, Nat.le_trans z hu.size, kp _ _ (by omega) q.b0, kp _ _ (by omega) q.b1, kp _ _ (by omega) q.b2, kp _ _ (by omega) q.b6, kp _ _ (by omega) q.b4, ⟨p, en, kp _ _ (by omega) h1, kp _ _ (by omega) h2, h3⟩, q.dd⟩
theorem GoX.upd {c : Code} (q : GoX w c W) (hu : It.Upd (fun k => k = w.heap.size + 8) W W') : GoX w c W' := by
  have z := q.sz
  have kp : ∀ k o, k < w.heap.size + 7 → W.heap[k]? = some o → W'.heap[k]? = some o := fun k o hk e => (hu.block k (by omega) (by omega)).trans e
  exact ⟨q.code, ⟨hu.os.trans q.bel.os, hu.tape.trans q.bel.tape, hu.output.trans q.bel.output, Nat.le_trans q.bel.size hu.size, fun k hk => (hu.block k (by omega) (by omega)).trans (q.bel.block k hk)⟩, Nat.le_trans z hu.size, kp _ _ (by omega) q.b2⟩
end
def goA (a : Act) (y : Yd) (W : World) : Act := { tmps := (((a.tmps.setIfInBounds 15 (tv y.t y.a)).setIfInBounds 16 (.agg #[.int .i64 y.c, .int .i64 y.f])).setIfInBounds 8 (.pointer (some ⟨W.heap.size, 0, none⟩))).setIfInBounds 9 (.pointer (some ⟨W.heap.size + 1, 0, none⟩)), defers := [] }
/-- within a round -/
structure GoM (w Wb : World) (s : ByteArray) (stop : Int) (y : Yd) (V : Nat) (p : Int) (en : Bool) (n : Int) (r : Bool) (W : World) : Prop where
  bel : Below w.heap.size w W
  big : w.heap.size + 9 ≤ V
  sz : V + 2 ≤ W.heap.size
  b0 : W.heap[w.heap.size]? = some (.cells #[.string s] 9 (0, 0))
  b1 : W.heap[w.heap.size + 1]? = some (.cells #[.int .i64 stop] 3 (0, 0))
  b2 : W.heap[w.heap.size + 2]? = some (.cells #[.bool r] 4 (0, 0))
  b3 : W.heap[w.heap.size + 3]? = some (.cells #[.int .i64 p] 3 (0, 0))
  b4 : W.heap[w.heap.size + 4]? = some (.cells #[.int .i64 n] 3 (0, 0))
  b5 : W.heap[w.heap.size + 5]? = some (.cells #[.bool en] 4 (0, 0))
  b6 : W.heap[w.heap.size + 6]? = some (.cells #[.string s] 9 (0, 0))
  tok : W.heap[V]? = some (.cells (cellsA y) 30 (0, 0))
  flt : W.heap[V + 1]? = some (.cells #[.int .i64 y.c, .int .i64 y.f] 25 (0, 0))
  kp : ∀ k, k < Wb.heap.size → k ≠ w.heap.size + 2 → k ≠ w.heap.size + 3 → k ≠ w.heap.size + 4 → k ≠ w.heap.size + 5 → W.heap[k]? = Wb.heap[k]?
theorem goM_of {w W : World} {s : ByteArray} {stop : Int} {Ys : List Yd} {i : Nat} {D : Nat → Prop} {y : Yd} (q : GoI w s stop Ys i D W) (h6 : w.heap.size + 9 ≤ W.heap.size) (o : Obj) : ∃ (p : Int) (en : Bool), GoM w ((allN y W).putObj (w.heap.size + 8) o) s stop y W.heap.size p en (i : Int) false ((allN y W).putObj (w.heap.size + 8) o) ∧ ((en = false ∧ ∃ k : Nat, p = (k : Int) ∧ k ≤ s.size ∧ T (s.data.toList.drop k) k = Ys.drop i) ∨ (en = true ∧ Ys.drop i = [])) := by
  have hB : Below W.heap.size W (allN y W) := ((Below.refl _ W).alloc (Nat.le_refl _) _).alloc (by simp) _
  have q1 : GoI w s stop Ys i D ((allN y W).putObj (w.heap.size + 8) o) := (q.upd (It.Upd.of_below hB)).upd (It.upd_put (S := fun k => k = w.heap.size + 8) rfl o)
  obtain ⟨p, en, h1, h2, h3⟩ := q1.st
  refine ⟨p, en, ⟨q1.bel, h6, ?_, q1.b0, q1.b1, q1.b2, h1, q1.b4, h2, q1.b6, ?_, ?_, fun _ _ _ _ _ _ => rfl⟩, h3⟩
  · simp [allN]
  · rw [World.putObj_heap_other (by omega)]
    exact (Below.heap_alloc _ _ _ (by simp)).trans (World.alloc_heap_new W _)
  · rw [World.putObj_heap_other (by omega)]
    have := World.alloc_heap_new (W.alloc (.cells (cellsA y) 30)) (.cells #[.int .i64 y.c, .int .i64 y.f] 25)
    rwa [World.size_alloc] at this
section
variable {w Wb W : World} {s : ByteArray} {stop : Int} {y : Yd} {V : Nat} {p : Int} {en : Bool} {n : Int} {r : Bool}
theorem GoM.go {W' : World} (h : GoM w Wb s stop y V p en n r W) (hb : Below W.heap.size W W') (hWb : Wb.heap.size ≤ W.heap.size) : GoM w Wb s stop y V p en n r W' := by
  have z := h.sz
  have g := h.big
  have kp : ∀ k o, k < W.heap.size → W.heap[k]? = o → W'.heap[k]? = o := fun k o hk e => (hb.block k hk).trans e
  exact ⟨h.bel.trans (hb.mono h.bel.size), g, Nat.le_trans z hb.size, kp _ _ (by omega) h.b0, kp _ _ (by omega) h.b1, kp _ _ (by omega) h.b2, kp _ _ (by omega) h.b3, kp _ _ (by omega) h.b4, kp _ _ (by omega) h.b5, kp _ _ (by omega) h.b6, kp _ _ (by omega) h.tok, kp _ _ (by omega) h.flt, fun k h1 h2 h3 h4 h5 => kp _ _ (by omega) (h.kp k h1 h2 h3 h4 h5)⟩
theorem GoM.set3 (h : GoM w Wb s stop y V p en n r W) (p' : Int) : GoM w Wb s stop y V p' en n r (W.setCell ⟨w.heap.size + 1 + 1 + 1, 0, none⟩ (.int .i64 p')) := by
  have z := h.sz
  have g := h.big
  have oth : ∀ (j : Nat) (o : Option Obj), j ≠ w.heap.size + 1 + 1 + 1 → W.heap[j]? = o → (W.setCell ⟨w.heap.size + 1 + 1 + 1, 0, none⟩ (.int .i64 p')).heap[j]? = o := fun j o hj e => (Below.heap_setCell _ _ _ _ hj).trans e
  exact ⟨h.bel.setCell (p := ⟨w.heap.size + 1 + 1 + 1, 0, none⟩) (by show w.heap.size ≤ w.heap.size + 1 + 1 + 1; omega) _, g, by simpa using z, oth _ _ (by omega) h.b0, oth _ _ (by omega) h.b1, oth _ _ (by omega) h.b2, heap_setX (c := [.int .i64 p]) h.b3 0 _, oth _ _ (by omega) h.b4, oth _ _ (by omega) h.b5, oth _ _ (by omega) h.b6, oth _ _ (by omega) h.tok, oth _ _ (by omega) h.flt, fun k h1 h2 h3 h4 h5 => oth _ _ (by omega) (h.kp k h1 h2 h3 h4 h5)⟩
theorem GoM.set4 (h : GoM w Wb s stop y V p en n r W) (n' : Int) : GoM w Wb s stop y V p en n' r (W.setCell ⟨w.heap.size + 1 + 1 + 1 + 1, 0, none⟩ (.int .i64 n')) := by
  have z := h.sz
  have g := h.big
  have oth : ∀ (j : Nat) (o : Option Obj), j ≠ w.heap.size + 1 + 1 + 1 + 1 → W.heap[j]? = o → (W.setCell ⟨w.heap.size + 1 + 1 + 1 + 1, 0, none⟩ (.int .i64 n')).heap[j]? = o := fun j o hj e => (Below.heap_setCell _ _ _ _ hj).trans e
  exact ⟨h.bel.setCell (p := ⟨w.heap.size + 1 + 1 + 1 + 1, 0, none⟩) (by show w.heap.size ≤ w.heap.size + 1 + 1 + 1 + 1; omega) _, g, by simpa using z, oth _ _ (by omega) h.b0, oth _ _ (by omega) h.b1, oth _ _ (by omega) h.b2, oth _ _ (by omega) h.b3, heap_setX (c := [.int .i64 n]) h.b4 0 _, oth _ _ (by omega) h.b5, oth _ _ (by omega) h.b6, oth _ _ (by omega) h.tok, oth _ _ (by omega) h.flt, fun k h1 h2 h3 h4 h5 => oth _ _ (by omega) (h.kp k h1 h2 h3 h4 h5)⟩
theorem GoM.set5 (h : GoM w Wb s stop y V p en n r W) (en' : Bool) : GoM w Wb s stop y V p en' n r (W.setCell ⟨w.heap.size + 1 + 1 + 1 + 1 + 1, 0, none⟩ (.bool en')) := by
  have z := h.sz
  have g := h.big
  have oth : ∀ (j : Nat) (o : Option Obj), j ≠ w.heap.size + 1 + 1 + 1 + 1 + 1 → W.heap[j]? = o → (W.setCell ⟨w.heap.size + 1 + 1 + 1 + 1 + 1, 0, none⟩ (.bool en')).heap[j]? = o := fun j o hj e => (Below.heap_setCell _ _ _ _ hj).trans e
  exact ⟨h.bel.setCell (p := ⟨w.heap.size + 1 + 1 + 1 + 1 + 1, 0, none⟩) (by show w.heap.size ≤ w.heap.size + 1 + 1 + 1 + 1 + 1; omega) _, g, by simpa using z, oth _ _ (by omega) h.b0, oth _ _ (by omega) h.b1, oth _ _ (by omega) h.b2, oth _ _ (by omega) h.b3, oth _ _ (by omega) h.b4, heap_setX (c := [.bool en]) h.b5 0 _, oth _ _ (by omega) h.b6, oth _ _ (by omega) h.tok, oth _ _ (by omega) h.flt, fun k h1 h2 h3 h4 h5 => oth _ _ (by omega) (h.kp k h1 h2 h3 h4 h5)⟩
theorem GoM.set2 (h : GoM w Wb s stop y V p en n r W) (r' : Bool) : GoM w Wb s stop y V p en n r' (W.setCell ⟨w.heap.size + 1 + 1, 0, none⟩ (.bool r')) := by
  have z := h.sz
  have g := h.big
  have oth : ∀ (j : Nat) (o : Option Obj), j ≠ w.heap.size + 1 + 1 → W.heap[j]? = o → (W.setCell ⟨w.heap.size + 1 + 1, 0, none⟩ (.bool r')).heap[j]? = o := fun j o hj e => (Below.heap_setCell _ _ _ _ hj).trans e
  exact ⟨h.bel.setCell (p := ⟨w.heap.size + 1 + 1, 0, none⟩) (by show w.heap.size ≤ w.heap.size + 1 + 1; omega) _, g, by simpa using z, oth _ _ (by omega) h.b0, oth _ _ (by omega) h.b1, heap_setX (c := [.bool r]) h.b2 0 _, oth _ _ (by omega) h.b3, oth _ _ (by omega) h.b4, oth _ _ (by omega) h.b5, oth _ _ (by omega) h.b6, oth _ _ (by omega) h.tok, oth _ _ (by omega) h.flt, fun k h1 h2 h3 h4 h5 => oth _ _ (by omega) (h.kp k h1 h2 h3 h4 h5)⟩
end
end Go.Proofs.YtdoojooepkdlhaaDoor.W
/- casketlaw11.goes: the walk. -/
namespace Go.Proofs.YtdoojooepkdlhaaDoor.W
open Go.ChangeShapes Go.WideShapes Go.RowKit Go.Shelf
set_option linter.unusedVariables false
set_option linter.unusedSimpArgs false
theorem go_start (w : World) (s : ByteArray) (stop : Int) (Ys : List Yd) (hT : T s.data.toList 0 = Ys) : GoI w s stop Ys 0 (fun k => k = w.heap.size + 3 ∨ k = w.heap.size + 4 ∨ k = w.heap.size + 5) (((((((w.alloc (.cells #[.string s] 9)).alloc (.cells #[.int .i64 stop] 3)).alloc (.cells #[.bool false] 4)).alloc (.cells #[.int .i64 0] 3)).alloc (.cells #[.int .i64 0] 3)).alloc (.cells #[.bool false] 4)).alloc (.cells #[.string s] 9)) := by
  have old : ∀ (W : World) (j : Nat) (v o : Obj), W.heap[j]? = some v → (W.alloc o).heap[j]? = some v := fun W j v o e => (Below.heap_alloc _ _ _ (Array.getElem?_eq_some_iff.1 e).1).trans e
  have n0 := World.alloc_heap_new w (.cells #[.string s] 9)
  have n1 := World.alloc_heap_new (w.alloc (.cells #[.string s] 9)) (.cells #[.int .i64 stop] 3)
  have n2 := World.alloc_heap_new ((w.alloc (.cells #[.string s] 9)).alloc (.cells #[.int .i64 stop] 3)) (.cells #[.bool false] 4)
  have n3 := World.alloc_heap_new (((w.alloc (.cells #[.string s] 9)).alloc (.cells #[.int .i64 stop] 3)).alloc (.cells #[.bool false] 4)) (.cells #[.int .i64 0] 3)
  have n4 := World.alloc_heap_new ((((w.alloc (.cells #[.string s] 9)).alloc (.cells #[.int .i64 stop] 3)).alloc (.cells #[.bool false] 4)).alloc (.cells #[.int .i64 0] 3)) (.cells #[.int .i64 0] 3)
  have n5 := World.alloc_heap_new (((((w.alloc (.cells #[.string s] 9)).alloc (.cells #[.int .i64 stop] 3)).alloc (.cells #[.bool false] 4)).alloc (.cells #[.int .i64 0] 3)).alloc (.cells #[.int .i64 0] 3)) (.cells #[.bool false] 4)
  have n6 := World.alloc_heap_new ((((((w.alloc (.cells #[.string s] 9)).alloc (.cells #[.int .i64 stop] 3)).alloc (.cells #[.bool false] 4)).alloc (.cells #[.int .i64 0] 3)).alloc (.cells #[.int .i64 0] 3)).alloc (.cells #[.bool false] 4)) (.cells #[.string s] 9)
  simp only [World.size_alloc] at n1 n2 n3 n4 n5 n6
  refine ⟨?_, by simp, ?_, ?_, ?_, n6, ?_, ⟨0, false, ?_, ?_, .inl ⟨rfl, 0, rfl, Nat.zero_le _, by rw [List.drop_zero, hT]; rfl⟩⟩, fun k => Iff.rfl⟩
  · exact ((((((((Below.refl _ w).alloc (Nat.le_refl _) _).alloc (by simp) _).alloc (by simp only [World.size_alloc]; omega) _).alloc (by simp only [World.size_alloc]; omega) _).alloc (by simp only [World.size_alloc]; omega) _).alloc (by simp only [World.size_alloc]; omega) _).alloc (by simp only [World.size_alloc]; omega) _)
  · exact old _ _ _ _ (old _ _ _ _ (old _ _ _ _ (old _ _ _ _ (old _ _ _ _ (old _ _ _ _ n0)))))
  · exact old _ _ _ _ (old _ _ _ _ (old _ _ _ _ (old _ _ _ _ (old _ _ _ _ n1))))
  · exact old _ _ _ _ (old _ _ _ _ (old _ _ _ _ (old _ _ _ _ n2)))
  · exact old _ _ _ _ (old _ _ _ _ n4)
  · exact old _ _ _ _ (old _ _ _ _ (old _ _ _ _ n3))
  · exact old _ _ _ _ n5
/-- how a round goes on -/
def GoesOn (s : ByteArray) (y : Yd) (rest : List Yd) (to' : Int) : Prop := (y.c ≠ 0 ∧ rest = []) ∨ (y.c = 0 ∧ y.t.kind = 7 ∧ rest = []) ∨ (y.c = 0 ∧ y.t.kind ≠ 7 ∧ ∃ m : Nat, to' = (m : Int) ∧ m ≤ s.size ∧ rest = T (s.data.toList.drop m) m)
theorem go_ar (k : Nat) (h : k ≤ 100000) : IntKind.i64.wrap ((k : Int) + 1) = (k : Int) + 1 ∧ wrap64 ((k : Int) + 1) = (k : Int) + 1 := by
  refine ⟨?_, ?_⟩
  · rw [IntKind.wrap_i64]; omega
  · unfold wrap64; omega
set_option maxRecDepth 100000 in
set_option maxHeartbeats 4000000 in
theorem goes_core (s : ByteArray) (hs : s.size ≤ 5000) (stop : Int) (Ys : List Yd) (hT0 : T s.data.toList 0 = Ys) (hlen : Ys.length ≤ 5001) (hpos : ∀ (r : List UInt8) a, T r a ≠ []) (hit : ∀ sb, IterD 11 #[.pointer (some ⟨sb, 0, none⟩)] (Ys.map yy) (fun W => W.cell? ⟨sb, 0, none⟩ = some (.string s) ∧ Tabs W ∧ MarksIn W))
    (cb : ∀ (a : Nat), a ≤ s.size → ∀ w, Calls Tryd.prog 9 #[.string s, .int .i64 a] w fun e w' => w' = w ∧ ∃ k : Nat, e = .returned (.int .i64 k) ∧ a ≤ k ∧ k ≤ s.size ∧ T (s.data.toList.drop a) a = T (s.data.toList.drop k) k ∧ NoGap (s.data.toList.drop k))
    (cx : ∀ (k : Nat), k ≤ s.size → NoGap (s.data.toList.drop k) → ∀ (y : Yd) (rest : List Yd), T (s.data.toList.drop k) k = y :: rest → ∀ w, Calls Tryd.prog 10 #[.string s, .int .i64 k] w fun e w' => (∃ to', e = .returned (.tuple #[.agg #[.int .i64 y.t.kind, .int .i64 y.a, .string y.t.text, .int .i64 y.t.int, .int .u64 y.t.bits], .int .i64 to', .agg #[.int .i64 y.c, .int .i64 y.f]]) ∧ GoesOn s y rest to') ∧ Below w.heap.size w w') (w : World) (ht : Tabs w) (hm : MarksIn w) :
    Calls Tryd.prog 7 #[.string s, .int .i64 stop] w fun e w' => e = .returned (.bool true) ∧ Below w.heap.size w w' := by
  have cv := tokens_c
  refine (callsIn_wide (n := 9)).1 ?_
  refine callsIn_of_wp_marks Tryd.func7 rfl trivial ?_ rfl
  refine wpIn_wide.2 ?_
  simp only [Tryd.ntmps7, List.size_toArray, List.length_cons, List.length_nil, Nat.reduceAdd, Nat.reduceSub, Array.replicate_succ, Array.replicate_zero, List.push_toArray, List.append_toArray, List.nil_append, List.cons_append]
  have HS := hid hs
  have CB := hid cb
  have CX := hid cx
  have HP := hid hpos
  have HL := hid hlen
  have HT0 := hid hT0
  clear hs cb cx hpos hlen hT0
  go_wp2_with (go_at_call 6; (with_reducible refine (cv _ _).mono ?_); rintro e w8 ⟨rfl, hw8⟩; (have hw' := hw8.symm); subst hw'; clear hw8)
  have q0 : GoI w s stop Ys 0 (fun k => k = w.heap.size + 3 ∨ k = w.heap.size + 4 ∨ k = w.heap.size + 5) (((((((w.alloc (.cells #[.string s] 9)).alloc (.cells #[.int .i64 stop] 3)).alloc (.cells #[.bool false] 4)).alloc (.cells #[.int .i64 0] 3)).alloc (.cells #[.int .i64 0] 3)).alloc (.cells #[.bool false] 4)).alloc (.cells #[.string s] 9)) := go_start w s stop Ys HT0.out
  have z0 : (((((((w.alloc (.cells #[.string s] 9)).alloc (.cells #[.int .i64 stop] 3)).alloc (.cells #[.bool false] 4)).alloc (.cells #[.int .i64 0] 3)).alloc (.cells #[.int .i64 0] 3)).alloc (.cells #[.bool false] 4)).alloc (.cells #[.string s] 9)).heap.size = w.heap.size + 7 := by simp
  generalize World.alloc (World.alloc (World.alloc (World.alloc (World.alloc (World.alloc (World.alloc w _) _) _) _) _) _) _ = W0 at *
  have hY : ∀ (i : Nat) (hi : i < (Ys.map yy).length), (Ys.map yy)[i] = yy (Ys.getD i noYd) := fun i hi => by
    rw [List.getElem_map]
    congr 1
    rw [List.getD_eq_getElem?_getD, List.getElem?_eq_getElem (by simpa using hi)]
    rfl
  refine iterD_lawA (hit (w.heap.size + 1 + 1 + 1 + 1 + 1 + 1)) eg_toks rfl (GoI w s stop Ys) (GoX w) ?hL ?hI ?hIx (fun k => k = w.heap.size + 3 ∨ k = w.heap.size + 4 ∨ k = w.heap.size + 5) q0 (fun i W => goA { tmps := #[.string s, .int .i64 stop, .pointer (some ⟨w.heap.size, 0, none⟩), .pointer (some ⟨w.heap.size + 1, 0, none⟩), .pointer (some ⟨w.heap.size + 1 + 1, 0, none⟩), .pointer (some ⟨w.heap.size + 1 + 1 + 1, 0, none⟩), .pointer (some ⟨w.heap.size + 1 + 1 + 1 + 1, 0, none⟩), .pointer (some ⟨w.heap.size + 1 + 1 + 1 + 1 + 1, 0, none⟩), undef, undef, undef, undef, undef, .string s, .func (.func 11) #[] #[.pointer (some ⟨w.heap.size + 1 + 1 + 1 + 1 + 1 + 1, 0, none⟩)], undef, undef, undef, undef, undef, undef, undef, undef, undef, undef, undef, undef, undef, undef, undef, undef, undef, undef, undef, undef, undef, undef, undef, undef, undef, undef, undef, undef, undef, undef, undef, undef, undef, undef, undef, undef, undef, undef, undef, undef, undef], defers := [] } (Ys.getD i noYd) W) (fun i W => allN (Ys.getD i noYd) W) ?hN ?hsz ?assign ?body ?done ?stop
  case hL =>
    intro i D W q
    refine ⟨⟨cell_of_row _ _ 0 _ _ _ q.b6, ht.below q.bel, hm.below q.bel⟩, ?_⟩
    intro k hk
    have := q.sz
    rcases (q.dd k).1 hk with rfl | rfl | rfl <;> omega
  case hI =>
    intro i D W W' q hu
    rw [z0] at hu
    exact q.upd hu
  case hIx =>
    intro c W W' q hu
    rw [z0] at hu
    exact q.upd hu
  case hN => intro i W; exact ((Below.refl _ W).alloc (Nat.le_refl _) _).alloc (by simp) _
  case hsz => intro i hi; rw [hY i hi]; rfl
  case assign =>
    intro L i hi W K hK
    rw [hY i hi]
    generalize Ys.getD i noYd = y at *
    obtain ⟨t, ya, yc, yf⟩ := y
    simp only [yy, yv, tv, zip_two, List.setIfInBounds_toArray, List.set_cons_succ, List.set_cons_zero]
    gi_wp2_with (simp only [Oper.semAt]; go_simp)
    exact hK
  case body =>
    intro L i hi D W o hLe q hsz9
    rw [z0] at hLe hsz9
    subst hLe
    obtain ⟨y, hy⟩ : ∃ y, Ys.getD i noYd = y := ⟨_, rfl⟩
    rw [hy]
    have hD := hid q.dd
    obtain ⟨p, en, M, hst⟩ := goM_of (y := y) q hsz9 o
    rw [z0]
    generalize hWb : (allN y W).putObj (w.heap.size + 7 + 1) o = Wb at *
    clear q hWb
    simp only [goA, tv, List.setIfInBounds_toArray, List.set_cons_succ, List.set_cons_zero]
    generalize W.heap.size = V at *
    have hil : i < Ys.length := by simpa using hi
    have hy' : Ys[i] = y := by
      rw [List.getD_eq_getElem?_getD, List.getElem?_eq_getElem hil] at hy
      exact hy
    have hdr : Ys.drop i = y :: Ys.drop (i + 1) := by rw [List.drop_eq_getElem_cons hil, hy']
    rw [hdr] at hst
    rcases hst with ⟨rfl, k0, rfl, hk0, hT⟩ | ⟨_, h⟩
    rotate_left
    · cases h
    have c0 : Wb.cell? ⟨w.heap.size, 0, none⟩ = some (.string s) := row_cellsX M.b0 0
    have c3 : Wb.cell? ⟨w.heap.size + 1 + 1 + 1, 0, none⟩ = some (.int .i64 k0) := row_cellsX M.b3 0
    have c5 : Wb.cell? ⟨w.heap.size + 1 + 1 + 1 + 1 + 1, 0, none⟩ = some (.bool false) := row_cellsX M.b5 0
    have f3 := row_thawX M.b3
    have big : ¬ (s.size : Int) > 65536 := by have := HS.out; omega
    have MM := hid M
    have HVB := hid (And.intro M.sz (And.intro M.big M.b2))
    have HK0 := hid hk0
    have HTk := hid hT
    have HIL := hid hil
    clear M hk0 hT hil hy' hdr hy hi hit q0 hY hm ht cv
    gi_upto_region 9 with (first | (simp only [Oper.semAt]; go_simp) | ((refine ⟨trivial, ?_⟩); gi_at_call 9; (refine (CallsIn.inRound _ (callsIn_wide.2 (CB.out k0 HK0.out _))).mono ?_); rintro e w' ⟨hw, k, rfl, g1, g2, g3, g4⟩; (have hw' := hw.symm); subst hw'; clear hw))
    have M1 := MM.out.set3 (k : Int)
    have zb : Wb.heap.size ≤ (Wb.setCell ⟨w.heap.size + 1 + 1 + 1, 0, none⟩ (.int .i64 (k : Int))).heap.size := by simp
    generalize Wb.setCell ⟨w.heap.size + 1 + 1 + 1, 0, none⟩ (.int .i64 (k : Int)) = W1 at *
    replace c0 : W1.cell? ⟨w.heap.size, 0, none⟩ = some (.string s) := row_cellsX M1.b0 0
    replace c3 : W1.cell? ⟨w.heap.size + 1 + 1 + 1, 0, none⟩ = some (.int .i64 k) := row_cellsX M1.b3 0
    have HG := hid (And.intro g2 (And.intro g4 (show T (s.data.toList.drop k) k = y :: Ys.drop (i + 1) from g3.symm.trans HTk.out)))
    have M1H := hid M1
    have ZB := hid zb
    clear c5 f3 g1 g2 g3 g4 HTk HK0 MM M1 zb
    gi_upto_region 10 with (first | (simp only [Oper.semAt]; go_simp) | ((refine ⟨trivial, ?_⟩); gi_at_call 10; (refine (CallsIn.inRound _ (callsIn_wide.2 (CX.out k HG.out.1 HG.out.2.1 y _ HG.out.2.2 _))).mono ?_); rintro e w2 ⟨⟨to', rfl, hgo⟩, hb⟩))
    have HGO := hid hgo
    have M2 := (M1H.out.go hb ZB.out).go (((Below.refl _ w2).alloc (Nat.le_refl _) (.cells #[.int .i64 y.t.kind, .int .i64 y.a, .string y.t.text, .int .i64 y.t.int, .int .u64 y.t.bits] 30)).alloc (by simp) (.cells #[.int .i64 y.c, .int .i64 y.f] 25)) (Nat.le_trans ZB.out hb.size)
    have f1 := (Blk.new w2 #[.int .i64 y.t.kind, .int .i64 y.a, .string y.t.text, .int .i64 y.t.int, .int .u64 y.t.bits] 30).alloc (.cells #[.int .i64 y.c, .int .i64 y.f] 25)
    have f2 := Blk.new (w2.alloc (.cells #[.int .i64 y.t.kind, .int .i64 y.a, .string y.t.text, .int .i64 y.t.int, .int .u64 y.t.bits] 30)) #[.int .i64 y.c, .int .i64 y.f] 25
    rw [World.size_alloc] at f2
    have zw : Wb.heap.size ≤ ((w2.alloc (.cells #[.int .i64 y.t.kind, .int .i64 y.a, .string y.t.text, .int .i64 y.t.int, .int .u64 y.t.bits] 30)).alloc (.cells #[.int .i64 y.c, .int .i64 y.f] 25)).heap.size := by have := ZB.out; have := hb.size; simp; omega
    clear hb hgo M1H ZB c0 c3 big
    generalize World.alloc (World.alloc w2 _) _ = W2 at *
    generalize w2.heap.size = b2 at *
    have q0 := f1.cells 0
    have q1 := f1.cells 1
    have q2 := f1.cells 2
    have q3 := f1.cells 3
    have q4 := f1.cells 4
    have q5 := f2.cells 0
    have q6 := f2.cells 1
    simp at q0 q1 q2 q3 q4 q5 q6
    have t0 : W2.cell? ⟨V, 0, none⟩ = some (.int .i64 y.t.kind) := row_cellsX M2.tok 0
    have t1 : W2.cell? ⟨V, 1, none⟩ = some (.int .i64 y.a) := row_cellsX M2.tok 1
    have t2 : W2.cell? ⟨V, 2, none⟩ = some (.string y.t.text) := row_cellsX M2.tok 2
    have t3 : W2.cell? ⟨V, 3, none⟩ = some (.int .i64 y.t.int) := row_cellsX M2.tok 3
    have t4 : W2.cell? ⟨V, 4, none⟩ = some (.int .u64 y.t.bits) := row_cellsX M2.tok 4
    have t5 : W2.cell? ⟨V + 1, 0, none⟩ = some (.int .i64 y.c) := row_cellsX M2.flt 0
    have t6 : W2.cell? ⟨V + 1, 1, none⟩ = some (.int .i64 y.f) := row_cellsX M2.flt 1
    have M2H := hid M2
    have ZW := hid zw
    clear f1 f2 M2 zw hsz9 HG CB CX
    gi_upto_region 12 with (simp only [Oper.semAt]; go_simp)
    clear q1 q2 q3 q4 q6 t1 t2 t3 t4 t5 t6
    have c5 : W2.cell? ⟨w.heap.size + 1 + 1 + 1 + 1 + 1, 0, none⟩ = some (.bool false) := row_cellsX M2H.out.b5 0
    have f5 := row_thawX M2H.out.b5
    rcases HGO.out with ⟨hc, hr⟩ | ⟨hc, h7, hr⟩ | ⟨hc, h7, m, rfl, hmm, hr⟩
    · have HEN := hid hr
      have hc1 : (y.c != 0) = true := by simpa using hc
      clear hr HGO hc
      gi_upto_region 13 with (simp only [Oper.semAt]; go_simp)
      have M3 := M2H.out.set5 true
      generalize W2.setCell ⟨w.heap.size + 1 + 1 + 1 + 1 + 1, 0, none⟩ (.bool true) = W3 at *
      have c3 : W3.cell? ⟨w.heap.size + 1 + 1 + 1, 0, none⟩ = some (.int .i64 k) := row_cellsX M3.b3 0
      have f3 := row_thawX M3.b3
      clear q0 q5 t0 c5 f5 M2H hc1
      try clear hc2
      have M3H := hid M3
      clear M3
      gi_upto_region 14 with (simp only [Oper.semAt]; go_simp)
      have M4 := M3H.out.set3 (to')
      generalize W3.setCell ⟨w.heap.size + 1 + 1 + 1, 0, none⟩ (.int .i64 (to')) = W4 at *
      have c4 : W4.cell? ⟨w.heap.size + 1 + 1 + 1 + 1, 0, none⟩ = some (.int .i64 i) := row_cellsX M4.b4 0
      have f4 := row_thawX M4.b4
      obtain ⟨v1, v2⟩ := go_ar i (by have := HIL.out; have := HL.out; omega)
      clear c3 f3 M3H
      have M4H := hid M4
      clear M4
      gi_upto_region 15 with (simp only [Oper.semAt]; go_simp)
      have M5 := M4H.out.set4 ((i : Int) + 1)
      generalize W4.setCell ⟨w.heap.size + 1 + 1 + 1 + 1, 0, none⟩ (.int .i64 ((i : Int) + 1)) = W5 at *
      have c4' : W5.cell? ⟨w.heap.size + 1 + 1 + 1 + 1, 0, none⟩ = some (.int .i64 ((i : Int) + 1)) := row_cellsX M5.b4 0
      have c1' : W5.cell? ⟨w.heap.size + 1, 0, none⟩ = some (.int .i64 stop) := row_cellsX M5.b1 0
      have c2' : W5.cell? ⟨w.heap.size + 1 + 1, 0, none⟩ = some (.bool false) := row_cellsX M5.b2 0
      have f2' := row_thawX M5.b2
      have M5H := hid M5
      clear c4 f4 M4H M5 v1 v2
      by_cases hst : ((i : Int) + 1) = stop
      · have hst' : (((i : Int) + 1) == stop) = true := by simpa using hst
        clear hst
        gi_wp2_with (simp only [Oper.semAt]; go_simp)
        have M6 := M5H.out.set2 true
        refine ⟨⟨M6.kp _ (by have := HVB.out.1; have := HVB.out.2.1; omega) (by omega) (by omega) (by omega) (by omega), M6.kp _ (by have := HVB.out.1; have := HVB.out.2.1; omega) (by omega) (by omega) (by omega) (by omega)⟩, ⟨rfl, M6.bel, by have := M6.sz; have := M6.big; omega, M6.b2⟩⟩
      · have hst' : (((i : Int) + 1) == stop) = false := by simpa using hst
        clear hst
        gi_wp2_with (simp only [Oper.semAt]; go_simp)
        have M6 := M5H.out
        refine ⟨⟨M6.kp _ (by have := HVB.out.1; have := HVB.out.2.1; omega) (by omega) (by omega) (by omega) (by omega), M6.kp _ (by have := HVB.out.1; have := HVB.out.2.1; omega) (by omega) (by omega) (by omega) (by omega)⟩, fun k h1 h2 => ?_, (fun k => k = w.heap.size + 3 ∨ k = w.heap.size + 4 ∨ k = w.heap.size + 5), ⟨M6.bel, by have := M6.sz; have := M6.big; omega, M6.b0, M6.b1, M6.b2, M6.b6, (by have := M6.b4; exact this), ⟨_, _, M6.b3, M6.b5, .inr ⟨rfl, HEN.out⟩⟩, fun k => Iff.rfl⟩⟩
        have h3 := fun e => h2 ((hD.out k).2 e)
        by_cases e2 : k = w.heap.size + 2
        · rw [e2, M6.b2]; exact HVB.out.2.2.symm
        · exact M6.kp k h1 e2 (fun e => h3 (.inl e)) (fun e => h3 (.inr (.inl e))) (fun e => h3 (.inr (.inr e)))
    · have HEN := hid hr
      have hc1 : (y.c != 0) = false := by simpa using hc
      have hc2 : (y.t.kind == 7) = true := by simpa using h7
      clear hr HGO hc h7
      gi_upto_region 13 with (simp only [Oper.semAt]; go_simp)
      have M3 := M2H.out.set5 true
      generalize W2.setCell ⟨w.heap.size + 1 + 1 + 1 + 1 + 1, 0, none⟩ (.bool true) = W3 at *
      have c3 : W3.cell? ⟨w.heap.size + 1 + 1 + 1, 0, none⟩ = some (.int .i64 k) := row_cellsX M3.b3 0
      have f3 := row_thawX M3.b3
      clear q0 q5 t0 c5 f5 M2H hc1
      try clear hc2
      have M3H := hid M3
      clear M3
      gi_upto_region 14 with (simp only [Oper.semAt]; go_simp)
      have M4 := M3H.out.set3 (to')
      generalize W3.setCell ⟨w.heap.size + 1 + 1 + 1, 0, none⟩ (.int .i64 (to')) = W4 at *
      have c4 : W4.cell? ⟨w.heap.size + 1 + 1 + 1 + 1, 0, none⟩ = some (.int .i64 i) := row_cellsX M4.b4 0
      have f4 := row_thawX M4.b4
      obtain ⟨v1, v2⟩ := go_ar i (by have := HIL.out; have := HL.out; omega)
      clear c3 f3 M3H
      have M4H := hid M4
      clear M4
      gi_upto_region 15 with (simp only [Oper.semAt]; go_simp)
      have M5 := M4H.out.set4 ((i : Int) + 1)
      generalize W4.setCell ⟨w.heap.size + 1 + 1 + 1 + 1, 0, none⟩ (.int .i64 ((i : Int) + 1)) = W5 at *
      have c4' : W5.cell? ⟨w.heap.size + 1 + 1 + 1 + 1, 0, none⟩ = some (.int .i64 ((i : Int) + 1)) := row_cellsX M5.b4 0
      have c1' : W5.cell? ⟨w.heap.size + 1, 0, none⟩ = some (.int .i64 stop) := row_cellsX M5.b1 0
      have c2' : W5.cell? ⟨w.heap.size + 1 + 1, 0, none⟩ = some (.bool false) := row_cellsX M5.b2 0
      have f2' := row_thawX M5.b2
      have M5H := hid M5
      clear c4 f4 M4H M5 v1 v2
      by_cases hst : ((i : Int) + 1) = stop
      · have hst' : (((i : Int) + 1) == stop) = true := by simpa using hst
        clear hst
        gi_wp2_with (simp only [Oper.semAt]; go_simp)
        have M6 := M5H.out.set2 true
        refine ⟨⟨M6.kp _ (by have := HVB.out.1; have := HVB.out.2.1; omega) (by omega) (by omega) (by omega) (by omega), M6.kp _ (by have := HVB.out.1; have := HVB.out.2.1; omega) (by omega) (by omega) (by omega) (by omega)⟩, ⟨rfl, M6.bel, by have := M6.sz; have := M6.big; omega, M6.b2⟩⟩
      · have hst' : (((i : Int) + 1) == stop) = false := by simpa using hst
        clear hst
        gi_wp2_with (simp only [Oper.semAt]; go_simp)
        have M6 := M5H.out
        refine ⟨⟨M6.kp _ (by have := HVB.out.1; have := HVB.out.2.1; omega) (by omega) (by omega) (by omega) (by omega), M6.kp _ (by have := HVB.out.1; have := HVB.out.2.1; omega) (by omega) (by omega) (by omega) (by omega)⟩, fun k h1 h2 => ?_, (fun k => k = w.heap.size + 3 ∨ k = w.heap.size + 4 ∨ k = w.heap.size + 5), ⟨M6.bel, by have := M6.sz; have := M6.big; omega, M6.b0, M6.b1, M6.b2, M6.b6, (by have := M6.b4; exact this), ⟨_, _, M6.b3, M6.b5, .inr ⟨rfl, HEN.out⟩⟩, fun k => Iff.rfl⟩⟩
        have h3 := fun e => h2 ((hD.out k).2 e)
        by_cases e2 : k = w.heap.size + 2
        · rw [e2, M6.b2]; exact HVB.out.2.2.symm
        · exact M6.kp k h1 e2 (fun e => h3 (.inl e)) (fun e => h3 (.inr (.inl e))) (fun e => h3 (.inr (.inr e)))
    · have HEN := hid (show ∃ k : Nat, ((m : Nat) : Int) = (k : Int) ∧ k ≤ s.size ∧ T (s.data.toList.drop k) k = Ys.drop (i + 1) from ⟨m, rfl, hmm, hr.symm⟩)
      have hc1 : (y.c != 0) = false := by simpa using hc
      have hc2 : (y.t.kind == 7) = false := by simpa using h7
      clear hr HGO hmm hc h7
      gi_upto_region 13 with (simp only [Oper.semAt]; go_simp)
      have M3 := M2H.out.set5 false
      generalize W2.setCell ⟨w.heap.size + 1 + 1 + 1 + 1 + 1, 0, none⟩ (.bool false) = W3 at *
      have c3 : W3.cell? ⟨w.heap.size + 1 + 1 + 1, 0, none⟩ = some (.int .i64 k) := row_cellsX M3.b3 0
      have f3 := row_thawX M3.b3
      clear q0 q5 t0 c5 f5 M2H hc1
      try clear hc2
      have M3H := hid M3
      clear M3
      gi_upto_region 14 with (simp only [Oper.semAt]; go_simp)
      have M4 := M3H.out.set3 ((m : Int))
      generalize W3.setCell ⟨w.heap.size + 1 + 1 + 1, 0, none⟩ (.int .i64 ((m : Int))) = W4 at *
      have c4 : W4.cell? ⟨w.heap.size + 1 + 1 + 1 + 1, 0, none⟩ = some (.int .i64 i) := row_cellsX M4.b4 0
      have f4 := row_thawX M4.b4
      obtain ⟨v1, v2⟩ := go_ar i (by have := HIL.out; have := HL.out; omega)
      clear c3 f3 M3H
      have M4H := hid M4
      clear M4
      gi_upto_region 15 with (simp only [Oper.semAt]; go_simp)
      have M5 := M4H.out.set4 ((i : Int) + 1)
      generalize W4.setCell ⟨w.heap.size + 1 + 1 + 1 + 1, 0, none⟩ (.int .i64 ((i : Int) + 1)) = W5 at *
      have c4' : W5.cell? ⟨w.heap.size + 1 + 1 + 1 + 1, 0, none⟩ = some (.int .i64 ((i : Int) + 1)) := row_cellsX M5.b4 0
      have c1' : W5.cell? ⟨w.heap.size + 1, 0, none⟩ = some (.int .i64 stop) := row_cellsX M5.b1 0
      have c2' : W5.cell? ⟨w.heap.size + 1 + 1, 0, none⟩ = some (.bool false) := row_cellsX M5.b2 0
      have f2' := row_thawX M5.b2
      have M5H := hid M5
      clear c4 f4 M4H M5 v1 v2
      by_cases hst : ((i : Int) + 1) = stop
      · have hst' : (((i : Int) + 1) == stop) = true := by simpa using hst
        clear hst
        gi_wp2_with (simp only [Oper.semAt]; go_simp)
        have M6 := M5H.out.set2 true
        refine ⟨⟨M6.kp _ (by have := HVB.out.1; have := HVB.out.2.1; omega) (by omega) (by omega) (by omega) (by omega), M6.kp _ (by have := HVB.out.1; have := HVB.out.2.1; omega) (by omega) (by omega) (by omega) (by omega)⟩, ⟨rfl, M6.bel, by have := M6.sz; have := M6.big; omega, M6.b2⟩⟩
      · have hst' : (((i : Int) + 1) == stop) = false := by simpa using hst
        clear hst
        gi_wp2_with (simp only [Oper.semAt]; go_simp)
        have M6 := M5H.out
        refine ⟨⟨M6.kp _ (by have := HVB.out.1; have := HVB.out.2.1; omega) (by omega) (by omega) (by omega) (by omega), M6.kp _ (by have := HVB.out.1; have := HVB.out.2.1; omega) (by omega) (by omega) (by omega) (by omega)⟩, fun k h1 h2 => ?_, (fun k => k = w.heap.size + 3 ∨ k = w.heap.size + 4 ∨ k = w.heap.size + 5), ⟨M6.bel, by have := M6.sz; have := M6.big; omega, M6.b0, M6.b1, M6.b2, M6.b6, (by have := M6.b4; exact this), ⟨_, _, M6.b3, M6.b5, .inl ⟨rfl, HEN.out⟩⟩, fun k => Iff.rfl⟩⟩
        have h3 := fun e => h2 ((hD.out k).2 e)
        by_cases e2 : k = w.heap.size + 2
        · rw [e2, M6.b2]; exact HVB.out.2.2.symm
        · exact M6.kp k h1 e2 (fun e => h3 (.inl e)) (fun e => h3 (.inr (.inl e))) (fun e => h3 (.inr (.inr e)))
  case done =>
    intro D W q hD
    rw [List.length_map] at q
    obtain ⟨p, en, h1, h2, h3⟩ := q.st
    have hen : en = true := by
      rcases h3 with ⟨_, k, _, _, h⟩ | ⟨h, _⟩
      · rw [List.drop_length] at h
        exact absurd h (HP.out _ _)
      · exact h
    subst hen
    have k5 : W.cell? ⟨w.heap.size + 1 + 1 + 1 + 1 + 1, 0, none⟩ = some (.bool true) := row_cellsX h2 0
    have k2 : W.cell? ⟨w.heap.size + 1 + 1, 0, none⟩ = some (.bool false) := row_cellsX q.b2 0
    have g2 := row_thawX q.b2
    have QQ := hid q
    rw [z0]
    rw [z0] at hD
    have HD := hid hD
    clear q h1 h2 h3 hit q0 hY hm ht cv hD HS CB CX HP HL HT0
    go_wp2
    have u2 : It.Upd (fun k => k = w.heap.size + 2) W (W.setCell ⟨w.heap.size + 1 + 1, 0, none⟩ (.bool true)) := (It.Upd.refl (fun k => k = w.heap.size + 2) W).setCell (p := ⟨w.heap.size + 1 + 1, 0, none⟩) (.inl rfl) _
    have b2 : (W.setCell ⟨w.heap.size + 1 + 1, 0, none⟩ (.bool true)).heap[w.heap.size + 2]? = some (.cells #[.bool true] 4 (0, 0)) := heap_setX (c := [.bool false]) QQ.out.b2 0 (.bool true)
    generalize W.setCell ⟨w.heap.size + 1 + 1, 0, none⟩ (.bool true) = Wd at *
    have hD2 : Wd.heap[w.heap.size + 7]? = some (.deferred (some [])) := (u2.block _ (Array.getElem?_eq_some_iff.1 HD.out).1 (by omega)).trans HD.out
    refine ⟨by simp, .inl ⟨_, _, rfl, run_takeDeferred hD2, ?_⟩⟩
    have u3 : It.Upd (fun k => k = w.heap.size + 2 ∨ k = w.heap.size + 7) W (Wd.putObj (w.heap.size + 7) (.deferred none)) := (u2.mono (fun k e => .inl e)).trans' (It.upd_put (S := fun k => k = w.heap.size + 2 ∨ k = w.heap.size + 7) (.inr rfl) _)
    refine ⟨_, bool_ret rfl _ _ (w.heap.size + 1 + 1) _ (0, 0) _ rfl ((World.putObj_heap_other (by omega)).trans b2), ?_⟩
    exact ⟨rfl, ⟨u3.os.trans QQ.out.bel.os, u3.tape.trans QQ.out.bel.tape, u3.output.trans QQ.out.bel.output, Nat.le_trans QQ.out.bel.size u3.size, fun k hk => (u3.block k (by have := QQ.out.sz; omega) (by omega)).trans (QQ.out.bel.block k hk)⟩⟩
  case stop =>
    intro c W q hD
    obtain rfl := q.code
    rw [z0]
    rw [z0] at hD
    have QQ := hid q
    clear hit q0 hY hm ht cv q HS CB CX HP HL HT0
    go_wp2
    refine ⟨by simp, .inl ⟨_, _, rfl, run_takeDeferred hD, ?_⟩⟩
    have u3 : It.Upd (fun k => k = w.heap.size + 7) W (W.putObj (w.heap.size + 7) (.deferred none)) := It.upd_put (S := fun k => k = w.heap.size + 7) rfl _
    refine ⟨_, bool_ret rfl _ _ (w.heap.size + 1 + 1) _ (0, 0) _ rfl ((World.putObj_heap_other (by omega)).trans QQ.out.b2), ?_⟩
    exact ⟨rfl, ⟨u3.os.trans QQ.out.bel.os, u3.tape.trans QQ.out.bel.tape, u3.output.trans QQ.out.bel.output, Nat.le_trans QQ.out.bel.size u3.size, fun k hk => (u3.block k (by have := QQ.out.sz; omega) (by omega)).trans (QQ.out.bel.block k hk)⟩⟩
end Go.Proofs.YtdoojooepkdlhaaDoor.W
/- LexReads: the walk. -/
namespace Go.Proofs.YtdoojooepkdlhaaDoor.W
open Go.ChangeShapes Go.WideShapes Go.RowKit Go.Shelf
set_option linter.unusedVariables false
theorem goes_c (s : ByteArray) (hs : s.size ≤ 5000) (stop : Int) (w : World) (ht : Tabs w) (hm : MarksIn w) : Calls Tryd.prog 7 #[.string s, .int .i64 stop] w fun e w' => e = .returned (.bool true) ∧ Below w.heap.size w w' := by
  have hl := size_list s
  have hsrc : srcY s.data.toList = T s.data.toList 0 := src_T _ (by omega)
  have hlen : (T s.data.toList 0).length ≤ 5001 := by have := srcY_len s.data.toList; rw [hsrc] at this; omega
  refine goes_core s hs stop (T s.data.toList 0) rfl hlen T_pos (fun sb => ?_) (fun a ha w => rBlank_c s (by omega) a ha w) (fun k hk hg y rest hT w => ?_) w ht hm
  · rw [← hsrc, ← vals_map]
    exact toks_iter s (by omega) sb
  · obtain ⟨to', h1, h2⟩ := goes_step s.data.toList k (by omega) hg y rest hT
    refine (rNext_any s (by omega) k hk w).mono ?_
    rintro e w' ⟨rfl, hb⟩
    refine ⟨⟨to', by rw [h1]; rfl, ?_⟩, hb⟩
    rcases h2 with h2 | h2 | ⟨h2, h3, m, h4, h5, h6⟩
    · exact .inl h2
    · exact .inr (.inl h2)
    · exact .inr (.inr ⟨h2, h3, m, h4, by omega, h6⟩)
theorem lexReads_long (s : ByteArray) (hs : 5000 < s.size) (stop : Int) (w : World) : Calls Tryd.prog 3 #[.string s, .int .i64 stop] w fun e w' => e = .returned (.bool true) ∧ Below w.heap.size w w' := by
  have c' : (s.size : Int) > 5000 := by omega
  clear hs
  go_enter Tryd.func3, Tryd.ntmps3
  go_wp2
  go_ret
  exact ⟨rfl, Below.refl _ _⟩
theorem lexReads_walk (s : ByteArray) (stop : Int) (ws : s.size ≤ maxLen) (w1 : (Lit.int .i64 stop).wf = true) (w : World) (ht : Tabs w) (hm : MarksIn w) : Calls Tryd.prog 3 #[.string s, .int .i64 stop] w fun e w' => e = .returned (.bool true) ∧ Below w.heap.size w w' := by
  by_cases c : 5000 < s.size
  · exact lexReads_long s c stop w
  · have hs : s.size ≤ 5000 := by omega
    have hl := size_list s
    have hsrc : srcY s.data.toList = T s.data.toList 0 := src_T _ (by omega)
    have hlen : (ansY (T s.data.toList 0)).1.length ≤ 5001 := by have := srcY_len s.data.toList; rw [hsrc] at this; have := ans_len (T s.data.toList 0); omega
    exact lexReads_core s hs stop (ansY (T s.data.toList 0)).1 _ rfl hlen (ansY (T s.data.toList 0)).2.1 (ansY (T s.data.toList 0)).2.2 w ht hm (fun w => refAll_ans s hs w) (fun w ht hm => lexAll_ans s hs w ht hm) (fun stop w ht hm => goes_c s hs stop w ht hm)
end Go.Proofs.YtdoojooepkdlhaaDoor.W
