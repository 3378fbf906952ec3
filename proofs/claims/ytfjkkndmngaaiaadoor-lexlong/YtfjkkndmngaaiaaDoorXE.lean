import Derived.Test.YtfjkkndmngaaiaaDoorXA
import Derived.Test.YtfjkkndmngaaiaaDoorA4
import Derived.Test.YtfjkkndmngaaiaaDoorRR4pn
import Derived.Test.YtfjkkndmngaaiaaDoorRR4mn
import Derived.Test.YtfjkkndmngaaiaaDoorRR4pd
import Derived.Test.YtfjkkndmngaaiaaDoorRR4md
/- casketref11: classes of bytes, words, marks, faults; Blank. -/
namespace Go.Proofs.YtfjkkndmngaaiaaDoor.W
open Go.ChangeShapes Go.WideShapes Go.RowKit Go.Shelf
set_option linter.unusedVariables false
set_option linter.unusedSimpArgs false
/-- may a byte begin a name? -/
def startB (c : UInt8) : Bool := decide (97 ≤ c.toNat ∧ c.toNat ≤ 122) || decide (c.toNat = 95)
theorem rStarts_c (c : UInt8) (w : World) : Calls Tryd.prog 16 #[.int .u8 c.toNat] w fun e w' => e = .returned (.bool (startB c)) ∧ w' = w := by
  unfold startB
  go_enter Tryd.func16, Tryd.ntmps16
  go_wp2
  all_goals (go_ret; refine ⟨ret_bool ?_, rfl⟩; first | rfl | (rw [Bool.eq_iff_iff]; simp; done) | (rw [Bool.eq_iff_iff]; simp; omega))
theorem rDigit_c (c : UInt8) (w : World) : Calls Tryd.prog 18 #[.int .u8 c.toNat] w fun e w' => e = .returned (.bool (digB c)) ∧ w' = w := by
  go_enter Tryd.func18, Tryd.ntmps18
  go_wp2
  all_goals (go_ret; refine ⟨ret_bool ?_, rfl⟩; simp only [digB]; rw [Bool.eq_iff_iff]; simp only [decide_eq_true_eq, Bool.false_eq_true, false_iff]; omega)
theorem name_start (c : UInt8) : nameB c = (startB c || digB c) := by
  have e1 : nameB c = (decide (97 ≤ c.toNat ∧ c.toNat ≤ 122) || digB c || decide (c.toNat = 95)) := by
    unfold nameB
    rw [← u8_eq c 95 (by decide)]; rfl
  rw [e1]
  unfold startB
  cases digB c <;> simp
theorem rGoesOn_c (c : UInt8) (w : World) : Calls Tryd.prog 29 #[.int .u8 c.toNat] w fun e w' => e = .returned (.bool (nameB c)) ∧ w' = w := by
  have cs := rStarts_c c
  have cd := rDigit_c c
  rw [name_start]
  generalize startB c = a at *
  generalize digB c = b at *
  cases a <;> cases b
  all_goals (
    go_enter Tryd.func29, Tryd.ntmps29
    go_wp2_with (first | (go_at_call 16; (with_reducible refine (cs _).mono ?_); rintro e w' ⟨rfl, rfl⟩) | (go_at_call 18; (with_reducible refine (cd _).mono ?_); rintro e w' ⟨rfl, rfl⟩))
    go_ret
    exact ⟨rfl, rfl⟩)
theorem rHex_c (c : UInt8) (w : World) : Calls Tryd.prog 32 #[.int .u8 c.toNat] w fun e w' => e = .returned (.int .i64 (hexV c)) ∧ w' = w := by
  have cd := rDigit_c c
  have hlt := c.toNat_lt
  unfold hexV
  by_cases h1 : 48 ≤ c.toNat ∧ c.toNat ≤ 57
  · have hd : digB c = true := by unfold digB; exact decide_eq_true h1
    rw [hd] at cd
    rw [if_pos h1]
    have e1 : IntKind.u8.wrap ((c.toNat : Int) - 48) = (c.toNat : Int) - 48 := by rw [IntKind.wrap_u8]; omega
    have e2 : IntKind.i64.wrap ((c.toNat : Int) - 48) = (c.toNat : Int) - 48 := by rw [IntKind.wrap_i64]; omega
    clear h1 hd hlt
    go_enter Tryd.func32, Tryd.ntmps32
    go_wp2_with (go_at_call 18; (with_reducible refine (cd _).mono ?_); rintro e w' ⟨rfl, rfl⟩)
    go_ret
    exact ⟨rfl, rfl⟩
  · have hd : digB c = false := by unfold digB; exact decide_eq_false h1
    rw [hd] at cd
    rw [if_neg h1]
    by_cases h2 : 97 ≤ c.toNat ∧ c.toNat ≤ 102
    · rw [if_pos h2]
      have g1 : (c.toNat : Int) ≥ 97 := by omega
      have g2 : (c.toNat : Int) ≤ 102 := by omega
      have e1 : IntKind.u8.wrap ((c.toNat : Int) - 97) = (c.toNat : Int) - 97 := by rw [IntKind.wrap_u8]; omega
      have e2 : IntKind.i64.wrap ((c.toNat : Int) - 97) = (c.toNat : Int) - 97 := by rw [IntKind.wrap_i64]; omega
      have e3 : IntKind.i64.wrap ((c.toNat : Int) - 97 + 10) = (c.toNat : Int) - 87 := by rw [IntKind.wrap_i64]; omega
      clear h1 hd hlt h2
      go_enter Tryd.func32, Tryd.ntmps32
      go_wp2_with (go_at_call 18; (with_reducible refine (cd _).mono ?_); rintro e w' ⟨rfl, rfl⟩)
      go_ret
      exact ⟨rfl, rfl⟩
    · rw [if_neg h2]
      go_enter Tryd.func32, Tryd.ntmps32
      go_wp2_with (go_at_call 18; (with_reducible refine (cd _).mono ?_); rintro e w' ⟨rfl, rfl⟩)
      all_goals first | (go_ret; exact ⟨rfl, rfl⟩) | (exfalso; omega)
set_option maxRecDepth 100000 in
theorem rReserved_c (s : ByteArray) (w : World) : Calls Tryd.prog 31 #[.string s] w fun e w' => e = .returned (.bool (decide (s.data.toList ∈ words))) ∧ w' = w := by
  by_cases h : s.data.toList ∈ words
  · rw [decide_eq_true h]
    unfold words at h
    simp only [List.mem_cons, List.not_mem_nil, or_false] at h
    rcases h with h | h | h | h | h | h | h | h | h | h | h | h | h | h | h | h | h
    all_goals (
      have hs := bytes_of h
      subst hs
      go_enter Tryd.func31, Tryd.ntmps31
      go_wp2
      go_ret
      exact ⟨rfl, rfl⟩)
  · rw [decide_eq_false h]
    have ne : ∀ l ∈ words, (s.toList == l) = false := by
      intro l hl
      rw [beq_eq_false_iff_ne, toList_eq]
      rintro rfl
      exact h hl
    have n2 := ne [102, 110] (by decide)
    have n3 := ne [108, 101, 116] (by decide)
    have n4 := ne [105, 102] (by decide)
    have n5 := ne [101, 108, 115, 101] (by decide)
    have n6 := ne [119, 104, 105, 108, 101] (by decide)
    have n7 := ne [102, 111, 114] (by decide)
    have n8 := ne [105, 110] (by decide)
    have n9 := ne [98, 114, 101, 97, 107] (by decide)
    have n10 := ne [99, 111, 110, 116, 105, 110, 117, 101] (by decide)
    have n11 := ne [114, 101, 116, 117, 114, 110] (by decide)
    have n12 := ne [111, 117, 116] (by decide)
    have n13 := ne [97, 110, 100] (by decide)
    have n14 := ne [111, 114] (by decide)
    have n15 := ne [110, 111, 116] (by decide)
    have n16 := ne [116, 114, 117, 101] (by decide)
    have n17 := ne [102, 97, 108, 115, 101] (by decide)
    have n18 := ne [110, 105, 108] (by decide)
    clear ne h
    go_enter Tryd.func31, Tryd.ntmps31
    go_wp2
    go_ret
    exact ⟨rfl, rfl⟩
set_option maxRecDepth 100000 in
theorem rMark_c (s : ByteArray) (w : World) : Calls Tryd.prog 21 #[.string s] w fun e w' => e = .returned (.bool (decide (s.data.toList ∈ marks))) ∧ w' = w := by
  by_cases h : s.data.toList ∈ marks
  · rw [decide_eq_true h]
    unfold marks at h
    simp only [List.mem_cons, List.not_mem_nil, or_false] at h
    rcases h with h | h | h | h | h | h | h | h | h | h | h | h | h | h | h | h | h | h | h | h | h | h | h | h | h | h | h | h | h
    all_goals (
      have hs := bytes_of h
      subst hs
      go_enter Tryd.func21, Tryd.ntmps21
      go_wp2
      go_ret
      exact ⟨rfl, rfl⟩)
  · rw [decide_eq_false h]
    have ne : ∀ l ∈ marks, (s.toList == l) = false := by
      intro l hl
      rw [beq_eq_false_iff_ne, toList_eq]
      rintro rfl
      exact h hl
    have n0 := ne [61, 61] (by decide)
    have n1 := ne [33, 61] (by decide)
    have n2 := ne [60, 61] (by decide)
    have n3 := ne [62, 61] (by decide)
    have n4 := ne [60, 60] (by decide)
    have n5 := ne [62, 62] (by decide)
    have n6 := ne [47, 47] (by decide)
    have n7 := ne [46, 46] (by decide)
    have n8 := ne [43] (by decide)
    have n9 := ne [45] (by decide)
    have n10 := ne [42] (by decide)
    have n11 := ne [47] (by decide)
    have n12 := ne [37] (by decide)
    have n13 := ne [38] (by decide)
    have n14 := ne [124] (by decide)
    have n15 := ne [94] (by decide)
    have n16 := ne [126] (by decide)
    have n17 := ne [60] (by decide)
    have n18 := ne [62] (by decide)
    have n19 := ne [61] (by decide)
    have n20 := ne [40] (by decide)
    have n21 := ne [41] (by decide)
    have n22 := ne [123] (by decide)
    have n23 := ne [125] (by decide)
    have n24 := ne [91] (by decide)
    have n25 := ne [93] (by decide)
    have n26 := ne [44] (by decide)
    have n27 := ne [59] (by decide)
    have n28 := ne [58] (by decide)
    clear ne h
    go_enter Tryd.func21, Tryd.ntmps21
    go_wp2
    go_ret
    exact ⟨rfl, rfl⟩
end Go.Proofs.YtfjkkndmngaaiaaDoor.W
/- casketref11: Blank. -/
namespace Go.Proofs.YtfjkkndmngaaiaaDoor.W
open Go.ChangeShapes Go.WideShapes Go.RowKit Go.Shelf
set_option linter.unusedVariables false
set_option linter.unusedSimpArgs false
/-- no gap begins here -/
def NoGap (r : List UInt8) : Prop := ∀ c, r.head? = some c → c ≠ 35 ∧ blankB c = false
theorem rem_end (l : List UInt8) (k j : Nat) (c : UInt8) (hd : l.drop k = c :: l.drop (k + 1)) (hc : c = 35) (h : runN lineB (l.drop k) + k = j) : T (l.drop k) k = T (l.drop j) j := by
  subst hc
  rw [hd, runN_cons_t (by decide)] at h
  rw [hd, T_remark, List.drop_drop]
  have e : k + 1 + runN lineB (l.drop (k + 1)) = j := by omega
  have e2 : k + (runN lineB (l.drop (k + 1)) + 1) = j := by omega
  rw [e, e2]
set_option maxRecDepth 100000 in
set_option maxHeartbeats 1000000 in
/-- where no gap is any more: what is told from there on is the same -/
theorem rBlank_c (s : ByteArray) (hs : s.size ≤ 1000000) (a : Nat) (ha : a ≤ s.size) (w : World) : Calls Tryd.prog 12 #[.string s, .int .i64 a] w fun e w' => w' = w ∧ ∃ k : Nat, e = .returned (.int .i64 k) ∧ a ≤ k ∧ k ≤ s.size ∧ T (s.data.toList.drop a) a = T (s.data.toList.drop k) k ∧ NoGap (s.data.toList.drop k) := by
  have HS := hid hs
  clear hs
  go_enter Tryd.func12, Tryd.ntmps12
  go_wp2_with fail
  go_loop [1] (fun i => ∃ k : Nat, i = .int .i64 k ∧ a ≤ k ∧ k ≤ s.size ∧ T (s.data.toList.drop a) a = T (s.data.toList.drop k) k) (fun i => s.size - (intOf i).toNat)
  case atStart => exact ⟨a, rfl, Nat.le_refl _, ha, rfl⟩
  case round =>
    obtain ⟨k, rfl, h1, h2, h3⟩ := hrel
    by_cases c : k < s.size
    · have c1 : (k : Int) < (s.size : Int) := by omega
      have c0 : (0 : Int) ≤ (k : Int) := by omega
      have hd := drop_cons s k c
      have e1 : IntKind.i64.wrap ((k : Int) + 1) = ((k + 1 : Nat) : Int) := by have := HS.out; rw [IntKind.wrap_i64]; omega
      have e2 : wrap64 ((k : Int) + 1) = ((k + 1 : Nat) : Int) := by have := HS.out; unfold wrap64; omega
      have tb : blankB s[k] = true → T (s[k] :: s.data.toList.drop (k + 1)) k = T (s.data.toList.drop (k + 1)) (k + 1) := fun h' => T_blank s[k] (s.data.toList.drop (k + 1)) k h'
      have bl : blankB s[k] = (decide (s[k].toNat = 32) || decide (s[k].toNat = 9) || decide (s[k].toNat = 10)) := by
        unfold blankB
        rw [← u8_eq s[k] 32 (by decide), ← u8_eq s[k] 9 (by decide), ← u8_eq s[k] 10 (by decide)]; rfl
      by_cases b : blankB s[k] = true
      · have fin := hid (show T (s.data.toList.drop a) a = T (s.data.toList.drop (k + 1)) (k + 1) by rw [h3, hd, tb b])
        have b' : s[k].toNat = 32 ∨ s[k].toNat = 9 ∨ s[k].toNat = 10 := by rw [bl] at b; simpa [or_assoc] using b
        have HH := hid (And.intro h1 c)
        clear tb bl hd h3 h1 h2 b
        rcases b' with b | b | b
        all_goals (
          go_wp2
          go_round
          case rel => exact ⟨k + 1, by go_num, by have := HH.out.1; omega, HH.out.2, fin.out⟩
          case measure => have := HH.out.2; simp [intOf]; omega)
      · have b0 : blankB s[k] = false := by simpa using b
        have n1 : ¬ s[k].toNat = 32 := fun e => b (by rw [bl, e]; rfl)
        have n2 : ¬ s[k].toNat = 9 := fun e => b (by rw [bl, e]; rfl)
        have n3 : ¬ s[k].toNat = 10 := fun e => b (by rw [bl, e]; rfl)
        clear tb bl b
        by_cases q : s[k].toNat = 35
        · have q' : s[k] = 35 := u8_is q
          have HH := hid (And.intro h1 (And.intro c h3))
          have HD := hid hd
          have HQ := hid q'
          have HLB := hid (show lineB s[k] = true by rw [q']; decide)
          clear h1 h3 hd q' h2 b0
          go_wp2_with fail
          go_loop [1] (fun i => ∃ j : Nat, i = .int .i64 j ∧ k ≤ j ∧ j ≤ s.size ∧ runN lineB (s.data.toList.drop k) + k = runN lineB (s.data.toList.drop j) + j) (fun i => s.size - (intOf i).toNat)
          case atStart => exact ⟨k, rfl, Nat.le_refl _, Nat.le_of_lt HH.out.2.1, rfl⟩
          case round =>
            obtain ⟨j, rfl, g1, g2, g3⟩ := hrel
            by_cases cj : j < s.size
            · have j1 : (j : Int) < (s.size : Int) := by omega
              have j0 : (0 : Int) ≤ (j : Int) := by omega
              have hdj := drop_cons s j cj
              have w1 : IntKind.i64.wrap ((j : Int) + 1) = ((j + 1 : Nat) : Int) := by have := HS.out; rw [IntKind.wrap_i64]; omega
              have w2 : wrap64 ((j : Int) + 1) = ((j + 1 : Nat) : Int) := by have := HS.out; unfold wrap64; omega
              by_cases ln : s[j].toNat = 10
              · have l0 : lineB s[j] = false := by rw [u8_is ln]; decide
                have hj : runN lineB (s.data.toList.drop j) = 0 := by rw [hdj]; exact runN_cons_f l0
                have fin := hid (rem_end s.data.toList k j _ HD.out HQ.out (by omega))
                have jk : k + 1 ≤ j := by
                  by_cases e : j = k
                  · subst e; exact absurd ln n3
                  · omega
                have HJ := hid (And.intro jk g2)
                clear g1 g2 g3 hdj l0 hj jk
                go_wp2
                go_round
                case rel => exact ⟨j, rfl, by have := HH.out.1; have := HJ.out.1; omega, HJ.out.2, HH.out.2.2.trans fin.out⟩
                case measure => have := HJ.out; simp [intOf]; omega
              · have l1 : lineB s[j] = true := by unfold lineB; rw [bne_iff_ne]; rintro e; rw [e] at ln; exact ln rfl
                have fin := hid (show runN lineB (s.data.toList.drop k) + k = runN lineB (s.data.toList.drop (j + 1)) + (j + 1) by rw [g3, hdj, runN_cons_t l1]; omega)
                have HJ := hid (And.intro g1 cj)
                clear g1 g2 g3 hdj l1
                go_wp2
                go_round
                case rel => exact ⟨j + 1, by go_num, by have := HJ.out.1; omega, HJ.out.2, fin.out⟩
                case measure => have := HJ.out; simp [intOf]; omega
            · have j1 : ¬ (j : Int) < (s.size : Int) := by omega
              have hj : runN lineB (s.data.toList.drop j) = 0 := by rw [List.drop_eq_nil_of_le (by rw [size_list]; omega)]; rfl
              have fin := hid (rem_end s.data.toList k j _ HD.out HQ.out (by omega))
              have HJ := hid (And.intro g2 cj)
              have jk : k + 1 ≤ j := by have := HH.out.2.1; omega
              have HJK := hid jk
              clear g1 g2 g3 cj hj jk
              go_wp2
              go_round
              case rel => exact ⟨j, rfl, by have := HH.out.1; have := HJK.out; omega, HJ.out.1, HH.out.2.2.trans fin.out⟩
              case measure => have := HJ.out; have := HJK.out; have := HH.out.2.1; simp [intOf]; omega
        · have fin := hid (show NoGap (s.data.toList.drop k) by
            intro d hdd
            rw [hd] at hdd
            injection hdd with hdd
            subst hdd
            exact ⟨fun e => q (by rw [e]; rfl), b0⟩)
          have HH := hid (And.intro h1 (And.intro h2 h3))
          have m1 : ((s[k].toNat : Int) == 32) = false := by simp; omega
          have m2 : ((s[k].toNat : Int) == 9) = false := by simp; omega
          have m3 : ((s[k].toNat : Int) == 10) = false := by simp; omega
          have m4 : ((s[k].toNat : Int) == 35) = false := by simp; omega
          clear h1 h2 h3 hd b0 n1 n2 n3 q
          go_wp2
          go_ret
          exact ⟨rfl, k, rfl, HH.out.1, HH.out.2.1, HH.out.2.2, fin.out⟩
    · have c1 : ¬ (k : Int) < (s.size : Int) := by omega
      have fin := hid (show NoGap (s.data.toList.drop k) by
        intro d hdd
        rw [List.drop_eq_nil_of_le (by rw [size_list]; omega)] at hdd
        cases hdd)
      have HH := hid (And.intro h1 (And.intro h2 h3))
      clear h1 h2 h3 c
      go_wp2
      go_ret
      exact ⟨rfl, k, rfl, HH.out.1, HH.out.2.1, HH.out.2.2, fin.out⟩
end Go.Proofs.YtfjkkndmngaaiaaDoor.W
/- Contract of the reference: a whole number read. -/
namespace Go.Proofs.YtfjkkndmngaaiaaDoor.W
open Go.ChangeShapes Go.WideShapes Go.RowKit

/-- what is known behind k digits -/
def Cnt (D : ByteArray) (k : Nat) (n : Int) (ov : Bool) : Prop :=
  k ≤ D.size ∧ (D.data.toList.take k).all digB = true ∧ 0 ≤ n ∧ n ≤ 9223372036854775808 ∧ (ov = false → n = (valD (D.data.toList.take k) : Int)) ∧ (ov = true → 9223372036854775808 < (valD (D.data.toList.take k) : Int))
theorem Cnt.start (D : ByteArray) : Cnt D 0 0 false := ⟨Nat.zero_le _, rfl, by omega, by omega, fun _ => rfl, by intro h; cases h⟩
theorem Cnt.over {D : ByteArray} {k : Nat} {n : Int} {ov : Bool} (h : Cnt D k n ov) (hk : k < D.size) (hd : digB D[k] = true) (ho : ov = true ∨ (9223372036854775808 - ((D[k].toNat : Int) - 48)) / 10 < n) : Cnt D (k + 1) n true := by
  obtain ⟨h1, h2, h3, h4, h5, h6⟩ := h
  have d := of_decide_eq_true hd
  have st := valD_step D k hk
  refine ⟨hk, all_step D k hk hd h2, h3, h4, (by intro h; cases h), fun _ => ?_⟩
  cases ov with
  | true => have := h6 rfl; omega
  | false =>
    rcases ho with ho | ho
    · cases ho
    · have := h5 rfl; omega
theorem Cnt.next {D : ByteArray} {k : Nat} {n : Int} (h : Cnt D k n false) (hk : k < D.size) (hd : digB D[k] = true) (ho : ¬ (9223372036854775808 - ((D[k].toNat : Int) - 48)) / 10 < n) : Cnt D (k + 1) (10 * n + ((D[k].toNat : Int) - 48)) false := by
  obtain ⟨h1, h2, h3, h4, h5, h6⟩ := h
  have d := of_decide_eq_true hd
  have st := valD_step D k hk
  have := h5 rfl
  exact ⟨hk, all_step D k hk hd h2, by omega, by omega, fun _ => by omega, by intro h; cases h⟩
def ansI (m : Bool) (n : Int) (ov : Bool) : Int × Int := if ov = true ∨ m = false ∧ n = 9223372036854775808 then (0, 13) else (if m = true then -n else n, 0)
theorem ansI_over (m : Bool) (n : Int) : ansI m n true = (0, 13) := by unfold ansI; rw [if_pos (Or.inl rfl)]
theorem ansI_neg (n : Int) : ansI true n false = (-n, 0) := by unfold ansI; simp
theorem ansI_top : ansI false 9223372036854775808 false = (0, 13) := by unfold ansI; simp
theorem ansI_pos (n : Int) (h : n ≠ 9223372036854775808) : ansI false n false = (n, 0) := by unfold ansI; simp [h]
theorem valI_out (m : Bool) (d : List UInt8) (h : limI m < (valD d : Int)) : valI m d = (0, 13) := by unfold valI; rw [if_neg (by omega)]
theorem valI_neg (d : List UInt8) (h : (valD d : Int) ≤ 9223372036854775808) : valI true d = (-(valD d : Int), 0) := by unfold valI limI; simp [h]
theorem valI_pos (d : List UInt8) (h : (valD d : Int) ≤ 9223372036854775807) : valI false d = ((valD d : Int), 0) := by unfold valI limI; simp [h]
/-- the answer behind all digits -/
theorem Cnt.done {D : ByteArray} {k : Nat} {n : Int} {ov : Bool} (h : Cnt D k n ov) (hk : ¬ k < D.size) (m : Bool) (hf : D.data.toList ≠ []) (hz : (D.data.toList.head? == some 48 && (decide (1 < D.data.toList.length) || m)) = false) :
    readD m D.data.toList = ansI m n ov := by
  obtain ⟨h1, h2, h3, h4, h5, h6⟩ := h
  rw [take_all D k hk] at h2 h5 h6
  have fm : formI m D.data.toList = true := by
    unfold formI
    rw [h2, hz]
    have : D.data.toList.isEmpty = false := by simpa using hf
    rw [this]; rfl
  rw [readD_val m _ fm]
  cases ov with
  | true =>
    have := h6 rfl
    rw [ansI_over, valI_out _ _ (by unfold limI; split <;> omega)]
  | false =>
    have := h5 rfl
    cases m with
    | true => rw [ansI_neg, valI_neg _ (by omega), this]
    | false =>
      by_cases q : n = 9223372036854775808
      · rw [q, ansI_top, valI_out _ _ (by unfold limI; simp; omega)]
      · rw [ansI_pos n q, valI_pos _ (by omega), this]
theorem form_no (m : Bool) (D : ByteArray) (h : D.data.toList = [] ∨ (D.data.toList.head? == some 48 && (decide (1 < D.data.toList.length) || m)) = true ∨ D.data.toList.all digB = false) : readD m D.data.toList = (0, 20) := by
  unfold readD
  rw [if_neg]
  unfold formI
  rcases h with h | h | h
  · rw [h]; simp
  · rw [h]; simp
  · rw [h]; simp
theorem cut_from0 (s : ByteArray) (k : Nat) : s.extract k s.size = ⟨(s.data.toList.drop k).toArray⟩ := by
  obtain ⟨⟨l⟩⟩ := s
  rw [ByteArray.extract_mk]
  have e : (⟨⟨l⟩⟩ : ByteArray).size = l.length := rfl
  rw [e]
  simp
  rw [List.take_of_length_le (by rw [List.length_drop]; omega)]
theorem lt48 (c : UInt8) : digB c = (!(decide ((c.toNat : Int) < 48) || decide (57 < (c.toNat : Int)))) := by
  unfold digB
  rw [Bool.eq_iff_iff]
  simp only [decide_eq_true_eq, Bool.not_eq_true', Bool.or_eq_false_iff, decide_eq_false_iff_not]
  omega
set_option maxHeartbeats 1000000 in
theorem refParseInt_minus (s D : ByteArray) (w : World) (s0 : 0 < s.size) (s64 : s.size ≤ 64) (he : s.toList.isEmpty = false) (hc : ((s[0].toNat : Int) == 45) = true) (hD : s.extract 1 s.size = D) (d0 : 0 < D.size) (d64 : D.size ≤ 64) (hde : D.toList.isEmpty = false)
    (hw : ((D[0].toNat : Int) == 48) = false) (hz : (D.data.toList.head? == some 48 && (decide (1 < D.data.toList.length) || true)) = false) :
    Calls Tryd.prog 33 #[.string s] w fun e w' => e = .returned (.tuple #[.int .i64 (readD true D.data.toList).1, .int .i64 (readD true D.data.toList).2]) ∧ w' = w := by
  have HZ := hid hz
  have hne : D.data.toList ≠ [] := by
    intro e
    have := size_list D
    rw [e] at this
    simp at this
    omega
  have HNE := hid hne
  clear hz hne
  go_enter Tryd.func33, Tryd.ntmps33
  go_wp2_with fail
  go_loop [6, 7, 8] (fun nv ov i => ∃ (k : Nat) (n : Int) (b : Bool), i = .int .i64 k ∧ nv = .int .u64 n ∧ ov = .bool b ∧ Cnt D k n b) (fun _ _ i => D.size - (intOf i).toNat)
  case atStart => exact ⟨0, 0, false, rfl, rfl, rfl, Cnt.start D⟩
  case round =>
    obtain ⟨k, n, b, rfl, rfl, rfl, hcn⟩ := hrel
    have HC := hid hcn
    obtain ⟨k1, -, n0, n1, -, -⟩ := hcn
    by_cases hlt : k < D.size
    · cases hd : digB D[k] with
      | false =>
        have R := hid (form_no true D (Or.inr (Or.inr (by
          rw [List.all_eq_false]
          exact ⟨D[k], by rw [← List.take_append_drop (k + 1) D.data.toList, take_snoc D k hlt]; simp, by rw [hd]; decide⟩))))
        rw [lt48] at hd
        have hd2 : decide ((D[k].toNat : Int) < 48) = true ∨ decide ((D[k].toNat : Int) < 48) = false ∧ decide (57 < (D[k].toNat : Int)) = true := by
          cases h1 : decide ((D[k].toNat : Int) < 48) with
          | true => exact Or.inl rfl
          | false => exact Or.inr ⟨rfl, by rw [h1] at hd; simpa using hd⟩
        clear hd
        rcases hd2 with g1 | ⟨g1, g2⟩
        · go_wp2_with fail
          go_ret2
          exact ⟨ret_ii (by rw [R.out]) (by rw [R.out]), rfl⟩
        · go_wp2_with fail
          go_ret2
          exact ⟨ret_ii (by rw [R.out]) (by rw [R.out]), rfl⟩
      | true =>
        have HD := hid hd
        have dd := of_decide_eq_true hd
        have g1 : decide ((D[k].toNat : Int) < 48) = false := decide_eq_false (by omega)
        have g2 : decide (57 < (D[k].toNat : Int)) = false := decide_eq_false (by omega)
        have e1 := sub48 D[k] dd
        have d0' := dd.1
        have d1' := dd.2
        clear hd dd
        cases b with
        | true =>
          have R := hid (HC.out.over hlt HD.out (Or.inl rfl))
          go_wp2_with fail
          go_round
          case rel => exact ⟨k + 1, n, true, by go_num, rfl, rfl, R.out⟩
          case measure => simp [intOf]; omega
        | false =>
          by_cases ho : (9223372036854775808 - ((D[k].toNat : Int) - 48)) / 10 < n
          · have R := hid (HC.out.over hlt HD.out (Or.inr ho))
            go_wp2_with fail
            go_round
            case rel => exact ⟨k + 1, n, true, by go_num, rfl, rfl, R.out⟩
            case measure => simp [intOf]; omega
          · have R := hid (HC.out.next hlt HD.out ho)
            go_wp2_with fail
            go_round
            case rel => exact ⟨k + 1, _, false, by go_num, by go_num, rfl, R.out⟩
            case measure => simp [intOf]; omega
    · have R := hid (show readD true D.data.toList = ansI true n b from HC.out.done hlt true HNE.out HZ.out)
      cases b with
      | true =>
        have E := hid (show readD true D.data.toList = (0, 13) by rw [R.out, ansI_over])
        go_wp2_with fail
        go_ret2
        exact ⟨ret_ii (by rw [E.out]) (by rw [E.out]), rfl⟩
      | false =>
        have E := hid (show readD true D.data.toList = (-n, 0) by rw [R.out, ansI_neg])
        have n2 : 0 < n := by
          have h5 := HC.out.2.2.2.2.1 rfl
          rw [take_all D k hlt] at h5
          have hg := (form_good (m := true) (d := D.data.toList) (by
            unfold formI
            have h2 := HC.out.2.1
            rw [take_all D k hlt] at h2
            rw [h2, HZ.out]
            have : D.data.toList.isEmpty = false := by simpa using HNE.out
            rw [this]; rfl)).2 rfl
          omega
        have w1 : wrap64 (n - 1) = n - 1 := by unfold wrap64; omega
        have w2 : wrap64 (-(n - 1)) = -(n - 1) := by unfold wrap64; omega
        have w3 : wrap64 (-(n - 1) - 1) = -n := by unfold wrap64; omega
        go_wp2_with fail
        go_ret2
        exact ⟨ret_ii (by rw [E.out]; first | rfl | omega) (by rw [E.out]), rfl⟩
set_option maxHeartbeats 1000000 in
theorem refParseInt_plus (s D : ByteArray) (w : World) (s0 : 0 < s.size) (s64 : s.size ≤ 64) (he : s.toList.isEmpty = false) (hc : ((s[0].toNat : Int) == 45) = false) (hD : s = D) (d0 : 0 < D.size) (d64 : D.size ≤ 64) (hde : D.toList.isEmpty = false)
    (hw : ((D[0].toNat : Int) == 48) = false ∨ ((D[0].toNat : Int) == 48) = true ∧ ¬ 1 < (D.size : Int)) (hz : (D.data.toList.head? == some 48 && (decide (1 < D.data.toList.length) || false)) = false) :
    Calls Tryd.prog 33 #[.string s] w fun e w' => e = .returned (.tuple #[.int .i64 (readD false D.data.toList).1, .int .i64 (readD false D.data.toList).2]) ∧ w' = w := by
  subst hD
  have HZ := hid hz
  have hne : s.data.toList ≠ [] := by
    intro e
    have := size_list s
    rw [e] at this
    simp at this
    omega
  have HNE := hid hne
  clear hz hne
  rcases hw with hw | ⟨hw, hw2⟩
  · go_enter Tryd.func33, Tryd.ntmps33
    go_wp2_with fail
    go_loop [6, 7, 8] (fun nv ov i => ∃ (k : Nat) (n : Int) (b : Bool), i = .int .i64 k ∧ nv = .int .u64 n ∧ ov = .bool b ∧ Cnt s k n b) (fun _ _ i => s.size - (intOf i).toNat)
    case atStart => exact ⟨0, 0, false, rfl, rfl, rfl, Cnt.start s⟩
    case round =>
      obtain ⟨k, n, b, rfl, rfl, rfl, hcn⟩ := hrel
      have HC := hid hcn
      obtain ⟨k1, -, n0, n1, -, -⟩ := hcn
      by_cases hlt : k < s.size
      · cases hd : digB s[k] with
        | false =>
          have R := hid (form_no false s (Or.inr (Or.inr (by
            rw [List.all_eq_false]
            exact ⟨s[k], by rw [← List.take_append_drop (k + 1) s.data.toList, take_snoc s k hlt]; simp, by rw [hd]; decide⟩))))
          rw [lt48] at hd
          have hd2 : decide ((s[k].toNat : Int) < 48) = true ∨ decide ((s[k].toNat : Int) < 48) = false ∧ decide (57 < (s[k].toNat : Int)) = true := by
            cases h1 : decide ((s[k].toNat : Int) < 48) with
            | true => exact Or.inl rfl
            | false => exact Or.inr ⟨rfl, by rw [h1] at hd; simpa using hd⟩
          clear hd
          rcases hd2 with g1 | ⟨g1, g2⟩
          · go_wp2_with fail
            go_ret2
            exact ⟨ret_ii (by rw [R.out]) (by rw [R.out]), rfl⟩
          · go_wp2_with fail
            go_ret2
            exact ⟨ret_ii (by rw [R.out]) (by rw [R.out]), rfl⟩
        | true =>
          have HD := hid hd
          have dd := of_decide_eq_true hd
          have g1 : decide ((s[k].toNat : Int) < 48) = false := decide_eq_false (by omega)
          have g2 : decide (57 < (s[k].toNat : Int)) = false := decide_eq_false (by omega)
          have e1 := sub48 s[k] dd
          have d0' := dd.1
          have d1' := dd.2
          clear hd dd
          cases b with
          | true =>
            have R := hid (HC.out.over hlt HD.out (Or.inl rfl))
            go_wp2_with fail
            go_round
            case rel => exact ⟨k + 1, n, true, by go_num, rfl, rfl, R.out⟩
            case measure => simp [intOf]; omega
          | false =>
            by_cases ho : (9223372036854775808 - ((s[k].toNat : Int) - 48)) / 10 < n
            · have R := hid (HC.out.over hlt HD.out (Or.inr ho))
              go_wp2_with fail
              go_round
              case rel => exact ⟨k + 1, n, true, by go_num, rfl, rfl, R.out⟩
              case measure => simp [intOf]; omega
            · have R := hid (HC.out.next hlt HD.out ho)
              go_wp2_with fail
              go_round
              case rel => exact ⟨k + 1, _, false, by go_num, by go_num, rfl, R.out⟩
              case measure => simp [intOf]; omega
      · have R := hid (show readD false s.data.toList = ansI false n b from HC.out.done hlt false HNE.out HZ.out)
        cases b with
        | true =>
          have E := hid (show readD false s.data.toList = (0, 13) by rw [R.out, ansI_over])
          go_wp2_with fail
          go_ret2
          exact ⟨ret_ii (by rw [E.out]) (by rw [E.out]), rfl⟩
        | false =>
          by_cases q : n = 9223372036854775808
          · have E := hid (show readD false s.data.toList = (0, 13) by rw [R.out, q, ansI_top])
            have q' : (n == 9223372036854775808) = true := by rw [q]; rfl
            go_wp2_with fail
            go_ret2
            exact ⟨ret_ii (by rw [E.out]) (by rw [E.out]), rfl⟩
          · have E := hid (show readD false s.data.toList = (n, 0) by rw [R.out, ansI_pos n q])
            have q' : (n == 9223372036854775808) = false := by rw [beq_eq_false_iff_ne]; exact q
            have n9 : n < 9223372036854775808 := by omega
            go_wp2_with fail
            go_ret2
            exact ⟨ret_ii (by rw [E.out]) (by rw [E.out]), rfl⟩
  · go_enter Tryd.func33, Tryd.ntmps33
    go_wp2_with fail
    go_loop [6, 7, 8] (fun nv ov i => ∃ (k : Nat) (n : Int) (b : Bool), i = .int .i64 k ∧ nv = .int .u64 n ∧ ov = .bool b ∧ Cnt s k n b) (fun _ _ i => s.size - (intOf i).toNat)
    case atStart => exact ⟨0, 0, false, rfl, rfl, rfl, Cnt.start s⟩
    case round =>
      obtain ⟨k, n, b, rfl, rfl, rfl, hcn⟩ := hrel
      have HC := hid hcn
      obtain ⟨k1, -, n0, n1, -, -⟩ := hcn
      by_cases hlt : k < s.size
      · cases hd : digB s[k] with
        | false =>
          have R := hid (form_no false s (Or.inr (Or.inr (by
            rw [List.all_eq_false]
            exact ⟨s[k], by rw [← List.take_append_drop (k + 1) s.data.toList, take_snoc s k hlt]; simp, by rw [hd]; decide⟩))))
          rw [lt48] at hd
          have hd2 : decide ((s[k].toNat : Int) < 48) = true ∨ decide ((s[k].toNat : Int) < 48) = false ∧ decide (57 < (s[k].toNat : Int)) = true := by
            cases h1 : decide ((s[k].toNat : Int) < 48) with
            | true => exact Or.inl rfl
            | false => exact Or.inr ⟨rfl, by rw [h1] at hd; simpa using hd⟩
          clear hd
          rcases hd2 with g1 | ⟨g1, g2⟩
          · go_wp2_with fail
            go_ret2
            exact ⟨ret_ii (by rw [R.out]) (by rw [R.out]), rfl⟩
          · go_wp2_with fail
            go_ret2
            exact ⟨ret_ii (by rw [R.out]) (by rw [R.out]), rfl⟩
        | true =>
          have HD := hid hd
          have dd := of_decide_eq_true hd
          have g1 : decide ((s[k].toNat : Int) < 48) = false := decide_eq_false (by omega)
          have g2 : decide (57 < (s[k].toNat : Int)) = false := decide_eq_false (by omega)
          have e1 := sub48 s[k] dd
          have d0' := dd.1
          have d1' := dd.2
          clear hd dd
          cases b with
          | true =>
            have R := hid (HC.out.over hlt HD.out (Or.inl rfl))
            go_wp2_with fail
            go_round
            case rel => exact ⟨k + 1, n, true, by go_num, rfl, rfl, R.out⟩
            case measure => simp [intOf]; omega
          | false =>
            by_cases ho : (9223372036854775808 - ((s[k].toNat : Int) - 48)) / 10 < n
            · have R := hid (HC.out.over hlt HD.out (Or.inr ho))
              go_wp2_with fail
              go_round
              case rel => exact ⟨k + 1, n, true, by go_num, rfl, rfl, R.out⟩
              case measure => simp [intOf]; omega
            · have R := hid (HC.out.next hlt HD.out ho)
              go_wp2_with fail
              go_round
              case rel => exact ⟨k + 1, _, false, by go_num, by go_num, rfl, R.out⟩
              case measure => simp [intOf]; omega
      · have R := hid (show readD false s.data.toList = ansI false n b from HC.out.done hlt false HNE.out HZ.out)
        cases b with
        | true =>
          have E := hid (show readD false s.data.toList = (0, 13) by rw [R.out, ansI_over])
          go_wp2_with fail
          go_ret2
          exact ⟨ret_ii (by rw [E.out]) (by rw [E.out]), rfl⟩
        | false =>
          by_cases q : n = 9223372036854775808
          · have E := hid (show readD false s.data.toList = (0, 13) by rw [R.out, q, ansI_top])
            have q' : (n == 9223372036854775808) = true := by rw [q]; rfl
            go_wp2_with fail
            go_ret2
            exact ⟨ret_ii (by rw [E.out]) (by rw [E.out]), rfl⟩
          · have E := hid (show readD false s.data.toList = (n, 0) by rw [R.out, ansI_pos n q])
            have q' : (n == 9223372036854775808) = false := by rw [beq_eq_false_iff_ne]; exact q
            have n9 : n < 9223372036854775808 := by omega
            go_wp2_with fail
            go_ret2
            exact ⟨ret_ii (by rw [E.out]) (by rw [E.out]), rfl⟩
theorem refParseInt_none (s : ByteArray) (w : World) (he : s.toList.isEmpty = true) (s0 : s.size = 0) :
    Calls Tryd.prog 33 #[.string s] w fun e w' => e = .returned (.tuple #[.int .i64 0, .int .i64 20]) ∧ w' = w := by
  go_enter Tryd.func33, Tryd.ntmps33
  go_wp2_with fail
  go_ret2
  exact ⟨rfl, rfl⟩
theorem refParseInt_m0 (s D : ByteArray) (w : World) (s0 : 0 < s.size) (s64 : s.size ≤ 64) (he : s.toList.isEmpty = false) (hc : ((s[0].toNat : Int) == 45) = true) (hD : s.extract 1 s.size = D) (hde : D.toList.isEmpty = true) :
    Calls Tryd.prog 33 #[.string s] w fun e w' => e = .returned (.tuple #[.int .i64 0, .int .i64 20]) ∧ w' = w := by
  go_enter Tryd.func33, Tryd.ntmps33
  go_wp2_with fail
  go_ret2
  exact ⟨rfl, rfl⟩
theorem refParseInt_m48 (s D : ByteArray) (w : World) (s0 : 0 < s.size) (s64 : s.size ≤ 64) (he : s.toList.isEmpty = false) (hc : ((s[0].toNat : Int) == 45) = true) (hD : s.extract 1 s.size = D) (hde : D.toList.isEmpty = false) (d0 : 0 < D.size) (hw : ((D[0].toNat : Int) == 48) = true) :
    Calls Tryd.prog 33 #[.string s] w fun e w' => e = .returned (.tuple #[.int .i64 0, .int .i64 20]) ∧ w' = w := by
  by_cases h1 : 1 < (D.size : Int)
  · go_enter Tryd.func33, Tryd.ntmps33
    go_wp2_with fail
    go_ret2
    exact ⟨rfl, rfl⟩
  · go_enter Tryd.func33, Tryd.ntmps33
    go_wp2_with fail
    go_ret2
    exact ⟨rfl, rfl⟩
theorem refParseInt_p48 (s : ByteArray) (w : World) (s0 : 0 < s.size) (s64 : s.size ≤ 64) (he : s.toList.isEmpty = false) (hc : ((s[0].toNat : Int) == 45) = false) (hw : ((s[0].toNat : Int) == 48) = true) (h1 : 1 < (s.size : Int)) :
    Calls Tryd.prog 33 #[.string s] w fun e w' => e = .returned (.tuple #[.int .i64 0, .int .i64 20]) ∧ w' = w := by
  go_enter Tryd.func33, Tryd.ntmps33
  go_wp2_with fail
  go_ret2
  exact ⟨rfl, rfl⟩
theorem chr_is (c d : UInt8) : ((c.toNat : Int) == (d.toNat : Int)) = decide (c = d) := by
  rw [Bool.eq_iff_iff, beq_iff_eq, decide_eq_true_eq]
  constructor
  · intro e
    exact UInt8.toNat_inj.1 (by omega)
  · intro e; subst e; rfl
theorem cons_at (s : ByteArray) (c : UInt8) (r : List UInt8) (h : s.data.toList = c :: r) : ∃ h0 : 0 < s.size, s[0] = c := by
  obtain ⟨⟨l⟩⟩ := s
  have hl : l = c :: r := h
  subst hl
  exact ⟨Nat.succ_pos r.length, rfl⟩
theorem refParseInt_c (s : ByteArray) (hs : s.size ≤ maxLen) (w : World) :
    Calls Tryd.prog 33 #[.string s] w fun e w' => e = .returned (.tuple #[.int .i64 (readI s.data.toList).1, .int .i64 (readI s.data.toList).2]) ∧ w' = w := by
  have sz := size_list s
  have tl := toList_eq s
  unfold maxLen at hs
  by_cases c64 : s.size ≤ 64
  · rw [readI_rest _ (by omega)]
    cases hl : s.data.toList with
    | nil =>
      have e : readD (minus1 []) (rest1 []) = (0, 20) := rfl
      rw [e]
      rw [hl] at sz tl
      exact refParseInt_none s w (by rw [tl]; rfl) sz.symm
    | cons c r =>
      obtain ⟨s0, h0⟩ := cons_at s c r hl
      rw [hl] at sz tl
      simp only [List.length_cons] at sz
      have he : s.toList.isEmpty = false := by rw [tl]; rfl
      by_cases hc : c = 45
      · subst hc
        have hc' : ((s[0].toNat : Int) == 45) = true := by rw [h0]; rfl
        have hx : s.extract 1 s.size = ⟨r.toArray⟩ := by
          have := cut_from0 s 1
          rw [hl] at this
          exact this
        show Calls _ _ _ _ fun e w' => e = .returned (.tuple #[.int .i64 (readD true r).1, .int .i64 (readD true r).2]) ∧ w' = w
        have hr : (⟨r.toArray⟩ : ByteArray).data.toList = r := rfl
        have hrt := toList_eq ⟨r.toArray⟩
        rw [hr] at hrt
        have hrs := size_list ⟨r.toArray⟩
        rw [hr] at hrs
        cases r with
        | nil =>
          have e : readD true [] = (0, 20) := rfl
          rw [e]
          exact refParseInt_m0 s _ w s0 c64 he hc' hx (by rw [hrt]; rfl)
        | cons d r =>
          obtain ⟨d0, hd⟩ := cons_at ⟨(d :: r).toArray⟩ d r rfl
          by_cases hz : d = 48
          · subst hz
            have e := form_no true ⟨(48 :: r).toArray⟩ (Or.inr (Or.inl (by rw [hr]; simp)))
            rw [hr] at e
            rw [e]
            exact refParseInt_m48 s _ w s0 c64 he hc' hx (by rw [hrt]; rfl) d0 (by rw [hd]; rfl)
          · have := refParseInt_minus s ⟨(d :: r).toArray⟩ w s0 c64 he hc' hx d0 (by rw [← hrs]; omega) (by rw [hrt]; rfl) (by rw [hd, show (48 : Int) = ((48 : UInt8).toNat : Int) from rfl, chr_is]; exact decide_eq_false hz) (by rw [hr]; simp [hz])
            rw [hr] at this
            exact this
      · obtain ⟨e1, e2⟩ := rest_not (c :: r) (fun d e => hc (by injection e))
        rw [e1, e2]
        have hc' : ((s[0].toNat : Int) == 45) = false := by rw [h0, show (45 : Int) = ((45 : UInt8).toNat : Int) from rfl, chr_is]; exact decide_eq_false hc
        by_cases hz : c = 48
        · subst hz
          have hw : ((s[0].toNat : Int) == 48) = true := by rw [h0]; rfl
          by_cases h1 : 1 < (s.size : Int)
          · have e := form_no false s (Or.inr (Or.inl (by rw [hl, decide_eq_true (show 1 < (48 :: r).length by simp only [List.length_cons]; omega)]; rfl)))
            rw [hl] at e
            rw [e]
            exact refParseInt_p48 s w s0 c64 he hc' hw h1
          · have := refParseInt_plus s s w s0 c64 he hc' rfl s0 c64 he (Or.inr ⟨hw, h1⟩) (by rw [hl, decide_eq_false (show ¬ 1 < (48 :: r).length by simp only [List.length_cons]; omega)]; rfl)
            rw [hl] at this
            exact this
        · have := refParseInt_plus s s w s0 c64 he hc' rfl s0 c64 he (Or.inl (by rw [h0, show (48 : Int) = ((48 : UInt8).toNat : Int) from rfl, chr_is]; exact decide_eq_false hz)) (by rw [hl]; simp [hz])
          rw [hl] at this
          exact this
  · have E : readI s.data.toList = (0, 2) := by unfold readI; rw [if_pos (by omega)]
    have H := hid E
    clear E
    go_enter Tryd.func33, Tryd.ntmps33
    go_wp2_with fail
    go_ret2
    exact ⟨ret_ii (by rw [H.out]) (by rw [H.out]), rfl⟩
end Go.Proofs.YtfjkkndmngaaiaaDoor.W
/- Contract of the reference: a double read, whatever the text. -/
namespace Go.Proofs.YtfjkkndmngaaiaaDoor.W
open Go.ChangeShapes Go.WideShapes Go.RowKit
set_option linter.unusedVariables false

def pfV (p : Int × Int) : Value := .tuple #[.int .u64 p.1, .int .i64 p.2]
set_option maxRecDepth 1000000 in
set_option maxHeartbeats 4000000 in
theorem refPF_long (s : ByteArray) (w : World) (hs : s.size ≤ maxLen) (h : 64 < (s.size : Int)) :
    Calls Tryd.prog 30 #[.string s] w fun e w' => e = .returned (pfV (0, 2)) ∧ Below w.heap.size w w' := by
  unfold maxLen at hs
  go_enter Tryd.func30, Tryd.ntmps30
  go_wp2_with fail
  go_ret2
  exact ⟨rfl, Below.refl _ _⟩
set_option maxRecDepth 1000000 in
set_option maxHeartbeats 4000000 in
theorem refPF_nan (w : World) :
    Calls Tryd.prog 30 #[.string ⟨#[110, 97, 110]⟩] w fun e w' => e = .returned (pfV (9221120237041090560, 0)) ∧ Below w.heap.size w w' := by
  go_enter Tryd.func30, Tryd.ntmps30
  go_wp2_with fail
  go_ret2
  exact ⟨rfl, Below.refl _ _⟩
set_option maxRecDepth 1000000 in
set_option maxHeartbeats 4000000 in
theorem refPF_inf (w : World) :
    Calls Tryd.prog 30 #[.string ⟨#[105, 110, 102]⟩] w fun e w' => e = .returned (pfV (9218868437227405312, 0)) ∧ Below w.heap.size w w' := by
  go_enter Tryd.func30, Tryd.ntmps30
  go_wp2_with fail
  go_ret2
  exact ⟨rfl, Below.refl _ _⟩
set_option maxRecDepth 1000000 in
set_option maxHeartbeats 4000000 in
theorem refPF_minf (w : World) :
    Calls Tryd.prog 30 #[.string ⟨#[45, 105, 110, 102]⟩] w fun e w' => e = .returned (pfV (18442240474082181120, 0)) ∧ Below w.heap.size w w' := by
  go_enter Tryd.func30, Tryd.ntmps30
  go_wp2_with fail
  go_ret2
  exact ⟨rfl, Below.refl _ _⟩
set_option maxRecDepth 1000000 in
set_option maxHeartbeats 4000000 in
theorem refPF_empty (w : World) :
    Calls Tryd.prog 30 #[.string ⟨#[]⟩] w fun e w' => e = .returned (pfV (0, 20)) ∧ Below w.heap.size w w' := by
  go_enter Tryd.func30, Tryd.ntmps30
  go_wp2_with fail
  go_ret2
  exact ⟨rfl, Below.refl _ _⟩
/-- no mark ahead: of the three ways one -/
def NoMark (T : ByteArray) : Prop := (T.size : Int) < 2 ∨ (∃ h : 1 < T.size, ((T[0].toNat : Int) != 48) = true) ∨ (∃ h : 1 < T.size, ((T[0].toNat : Int) != 48) = false ∧ ((T[1].toNat : Int) != 120) = true)
set_option maxRecDepth 1000000 in
set_option maxHeartbeats 4000000 in
theorem refPF_plusNo (T : ByteArray) (w : World) (he : T.toList.isEmpty = false) (t0 : 0 < T.size) (t64 : T.size ≤ 64) (hc : ((T[0].toNat : Int) == 45) = false) (n1 : (T.toList == [110, 97, 110]) = false) (n2 : (T.toList == [105, 110, 102]) = false) (n3 : (T.toList == [45, 105, 110, 102]) = false) (hn : NoMark T) :
    Calls Tryd.prog 30 #[.string T] w fun e w' => e = .returned (pfV (0, 20)) ∧ Below w.heap.size w w' := by
  rcases hn with h | ⟨t2, h⟩ | ⟨t2, h, g⟩
  · go_enter Tryd.func30, Tryd.ntmps30
    go_wp2_with fail
    go_ret2
    exact ⟨rfl, Below.refl _ _⟩
  · have t2' : ¬ (T.size : Int) < 2 := by omega
    go_enter Tryd.func30, Tryd.ntmps30
    go_wp2_with fail
    go_ret2
    exact ⟨rfl, Below.refl _ _⟩
  · have t2' : ¬ (T.size : Int) < 2 := by omega
    go_enter Tryd.func30, Tryd.ntmps30
    go_wp2_with fail
    go_ret2
    exact ⟨rfl, Below.refl _ _⟩
set_option maxRecDepth 1000000 in
set_option maxHeartbeats 4000000 in
theorem refPF_minusNo (s T : ByteArray) (w : World) (s0 : 0 < s.size) (s64 : s.size ≤ 64) (he : s.toList.isEmpty = false) (hc : ((s[0].toNat : Int) == 45) = true) (hT : s.extract 1 s.size = T) (n1 : (s.toList == [110, 97, 110]) = false) (n2 : (s.toList == [105, 110, 102]) = false) (n3 : (s.toList == [45, 105, 110, 102]) = false) (t64 : T.size ≤ 64) (hn : NoMark T) :
    Calls Tryd.prog 30 #[.string s] w fun e w' => e = .returned (pfV (0, 20)) ∧ Below w.heap.size w w' := by
  rcases hn with h | ⟨t2, h⟩ | ⟨t2, h, g⟩
  · go_enter Tryd.func30, Tryd.ntmps30
    go_wp2_with fail
    go_ret2
    exact ⟨rfl, Below.refl _ _⟩
  · have t2' : ¬ (T.size : Int) < 2 := by omega
    go_enter Tryd.func30, Tryd.ntmps30
    go_wp2_with fail
    go_ret2
    exact ⟨rfl, Below.refl _ _⟩
  · have t2' : ¬ (T.size : Int) < 2 := by omega
    go_enter Tryd.func30, Tryd.ntmps30
    go_wp2_with fail
    go_ret2
    exact ⟨rfl, Below.refl _ _⟩
theorem noMark_body (T : ByteArray) (h : NoMark T) : bodyR T.data.toList = none := by
  refine body_noMark T ?_
  rcases h with h | ⟨t2, h⟩ | ⟨t2, h, g⟩
  · exact Or.inl (by omega)
  · refine Or.inr ⟨t2, Or.inl ?_⟩
    intro e; rw [e] at h; exact absurd h (by decide)
  · refine Or.inr ⟨t2, Or.inr ?_⟩
    intro e; rw [e] at g; exact absurd g (by decide)
theorem bne_chr (c d : UInt8) : ((c.toNat : Int) != (d.toNat : Int)) = !decide (c = d) := by rw [bne, chr_eq]
theorem mark_ways (T : ByteArray) : NoMark T ∨ ∃ h : 1 < T.size, T[0] = 48 ∧ T[1] = 120 := by
  by_cases h : 1 < T.size
  · by_cases h0 : T[0] = 48
    · by_cases h1 : T[1] = 120
      · exact Or.inr ⟨h, h0, h1⟩
      · refine Or.inl (Or.inr (Or.inr ⟨h, by rw [h0]; rfl, ?_⟩))
        rw [show (120 : Int) = ((120 : UInt8).toNat : Int) from rfl, bne_chr, decide_eq_false h1]; rfl
    · refine Or.inl (Or.inr (Or.inl ⟨h, ?_⟩))
      rw [show (48 : Int) = ((48 : UInt8).toNat : Int) from rfl, bne_chr, decide_eq_false h0]; rfl
  · exact Or.inl (Or.inl (by omega))
theorem names_of (s : ByteArray) (l : List UInt8) (h : s.data.toList ≠ l) : (s.toList == l) = false := by
  rw [toList_eq, beq_eq_false_iff_ne]; exact h
theorem ba_list (s : ByteArray) (l : List UInt8) (h : s.data.toList = l) : s = ⟨l.toArray⟩ := by
  cases s with | mk d => cases d; simp_all
theorem refParseFloat_c (s : ByteArray) (hs : s.size ≤ maxLen) (w : World) :
    Calls Tryd.prog 30 #[.string s] w fun e w' => e = .returned (pfV (readF s.data.toList)) ∧ Below w.heap.size w w' := by
  have sz := size_list s
  have tl := toList_eq s
  by_cases c64 : s.size ≤ 64
  · by_cases h1 : s.data.toList = nanT
    · have := refPF_nan w
      rw [h1, ba_list s _ h1]
      exact this
    by_cases h2 : s.data.toList = infT
    · have := refPF_inf w
      rw [h2, ba_list s _ h2]
      exact this
    by_cases h3 : s.data.toList = 45 :: infT
    · have := refPF_minf w
      rw [h3, ba_list s _ h3]
      exact this
    rw [readF_ans _ (by omega) h1 h2 h3]
    have n1 := names_of s _ h1
    have n2 := names_of s _ h2
    have n3 := names_of s _ h3
    cases hl : s.data.toList with
    | nil =>
      rw [ba_list s _ hl]
      exact refPF_empty w
    | cons c r =>
      obtain ⟨s0, h0⟩ := cons_at s c r hl
      rw [hl] at tl
      have he : s.toList.isEmpty = false := by rw [tl]; rfl
      by_cases hc : c = 45
      · subst hc
        have hc' : ((s[0].toNat : Int) == 45) = true := by rw [h0]; rfl
        have hx : s.extract 1 s.size = ⟨r.toArray⟩ := by
          have := cut_from0 s 1
          rw [hl] at this
          exact this
        have hr : (⟨r.toArray⟩ : ByteArray).data.toList = r := rfl
        have hrs := size_list ⟨r.toArray⟩
        rw [hr] at hrs
        rw [hl] at sz
        simp only [List.length_cons] at sz
        show Calls _ _ _ _ fun e w' => e = .returned (pfV (ansF 9223372036854775808 (bodyR r))) ∧ _
        generalize hT : (⟨r.toArray⟩ : ByteArray) = T at *
        have hr2 : T.data.toList = r := by rw [← hT]
        rw [← hr2]
        have t64 : T.size ≤ 64 := by omega
        rcases mark_ways T with hn | ⟨t2, m0, m1⟩
        · rw [noMark_body T hn]
          exact refPF_minusNo s T w s0 c64 he hc' hx n1 n2 n3 t64 hn
        · obtain ⟨e1, ST⟩ := stop_at T 2 (by omega)
          by_cases hd : ∃ h : e1 < T.size, T[e1] = 46
          · obtain ⟨hel, hdot⟩ := hd
            by_cases hne : e1 = 2
            · exact refPF_minusPlain s T w s0 c64 he hc' hx n1 n2 n3 t64 t2 m0 m1 e1 ST (fun h => absurd hne h)
            · obtain ⟨f1, SF⟩ := stop_at T (e1 + 1) (by omega)
              exact refPF_minusPoint s T w s0 c64 he hc' hx n1 n2 n3 t64 t2 m0 m1 e1 f1 hne hel hdot ST SF
          · exact refPF_minusPlain s T w s0 c64 he hc' hx n1 n2 n3 t64 t2 m0 m1 e1 ST (fun _ h e => hd ⟨h, e⟩)
      · obtain ⟨g1, g2⟩ := rest_not (c :: r) (fun d e => hc (by injection e))
        rw [g1, g2]
        have hc' : ((s[0].toNat : Int) == 45) = false := by rw [h0, show (45 : Int) = ((45 : UInt8).toNat : Int) from rfl, chr_is]; exact decide_eq_false hc
        rw [← hl]
        show Calls _ _ _ _ fun e w' => e = .returned (pfV (ansF 0 (bodyR s.data.toList))) ∧ _
        rcases mark_ways s with hn | ⟨t2, m0, m1⟩
        · rw [noMark_body s hn]
          exact refPF_plusNo s w he s0 c64 hc' n1 n2 n3 hn
        · obtain ⟨e1, ST⟩ := stop_at s 2 (by omega)
          by_cases hd : ∃ h : e1 < s.size, s[e1] = 46
          · obtain ⟨hel, hdot⟩ := hd
            by_cases hne : e1 = 2
            · exact refPF_plusPlain s w he s0 hc' n1 n2 n3 c64 t2 m0 m1 e1 ST (fun h => absurd hne h)
            · obtain ⟨f1, SF⟩ := stop_at s (e1 + 1) (by omega)
              exact refPF_plusPoint s w he s0 hc' n1 n2 n3 c64 t2 m0 m1 e1 f1 hne hel hdot ST SF
          · exact refPF_plusPlain s w he s0 hc' n1 n2 n3 c64 t2 m0 m1 e1 ST (fun _ h e => hd ⟨h, e⟩)
  · have E : readF s.data.toList = (0, 2) := by unfold readF; rw [if_pos (by omega)]
    rw [E]
    exact refPF_long s w hs (by omega)
end Go.Proofs.YtfjkkndmngaaiaaDoor.W
/- casketref11: faults, names. -/
namespace Go.Proofs.YtfjkkndmngaaiaaDoor.W
open Go.ChangeShapes Go.WideShapes Go.RowKit Go.Shelf
set_option linter.unusedVariables false
set_option linter.unusedSimpArgs false
/-- a token, where it ends, a fault: of what begins at a place -/
def nxR (p : Pc) (a : Nat) : Value := if p.size = 0 then .tuple #[tv noTk 0, .int .i64 (a : Nat), .agg #[.int .i64 60, .int .i64 (a : Nat)]] else if p.code ≠ 0 then .tuple #[tv noTk 0, .int .i64 (a : Nat), .agg #[.int .i64 p.code, .int .i64 (a : Nat)]] else .tuple #[tv p.t (a : Nat), .int .i64 ((a + p.size : Nat) : Int), .agg #[.int .i64 0, .int .i64 0]]
theorem nx_bad (n : Nat) (c : Int) (a : Nat) (hn : n ≠ 0) (hc : c ≠ 0) : nxR (badPc n c) a = .tuple #[tv noTk 0, .int .i64 (a : Nat), .agg #[.int .i64 c, .int .i64 (a : Nat)]] := by
  unfold nxR
  rw [if_neg (show ¬ (badPc n c).size = 0 from hn), if_pos (show (badPc n c).code ≠ 0 from hc)]
  rfl
theorem nx_ok (t : Tk) (n a : Nat) (hn : n ≠ 0) : nxR (okPc t n) a = .tuple #[tv t (a : Nat), .int .i64 ((a + n : Nat) : Int), .agg #[.int .i64 0, .int .i64 0]] := by
  unfold nxR
  rw [if_neg (show ¬ (okPc t n).size = 0 from hn), if_neg (fun h => h rfl)]
  rfl
theorem nx_ret {fn : Func} {p q r : Tmp} (h : fn.results = #[.cell p 30, .tmp q, .cell r 25]) (tmps : Array Value) (w : World) (b4 b6 : Nat) (v0 v1 v2 v3 v4 c a u : Value) (fr fr' : Nat × Nat) (hp : tmps.getD p undef = .pointer (some ⟨b4, 0, none⟩)) (hq : tmps.getD q undef = u) (hr : tmps.getD r undef = .pointer (some ⟨b6, 0, none⟩)) (hg : w.heap[b4]? = some (.cells #[v0, v1, v2, v3, v4] 30 fr)) (hg3 : w.heap[b6]? = some (.cells #[c, a] 25 fr')) : (results fn tmps).run Tryd.prog w = .ok (.tuple #[.agg #[v0, v1, v2, v3, v4], u, .agg #[c, a]]) w := by
  obtain ⟨d, hu, hd⟩ := ftT
  have hl := run_loadVar_row (P := Tryd.prog) w b6 25 25 #[c, a] fr' d hg3 hu (by cases d <;> first | rfl | exact hd) (by rw [ftSz]; rfl)
  have ht := tkT
  cases hu2 : Tryd.prog.underlying 30 with
  | none => rw [hu2] at ht; cases ht
  | some d2 =>
    rw [hu2] at ht
    simp only [Option.map_some, Option.some.injEq] at ht
    have hl2 := run_loadVar_row (P := Tryd.prog) w b4 30 30 #[v0, v1, v2, v3, v4] fr d2 hg hu2 (by cases d2 <;> first | rfl | exact ht) (by rw [tkSz]; rfl)
    have hp' : tmps[p]?.getD undef = .pointer (some ⟨b4, 0, none⟩) := by simpa using hp
    have hq' : tmps[q]?.getD undef = u := by simpa using hq
    have hr' : tmps[r]?.getD undef = .pointer (some ⟨b6, 0, none⟩) := by simpa using hr
    simp [results, h, hp', hq', hr', asAddr, hl, hl2]
theorem rFault_c (c : Int) (a : Nat) (w : World) : Calls Tryd.prog 22 #[.int .i64 c, .int .i64 a] w fun e w' => e = .returned (.tuple #[tv noTk 0, .int .i64 (a : Nat), .agg #[.int .i64 c, .int .i64 (a : Nat)]]) ∧ Below w.heap.size w w' := by
  go_enter Tryd.func22, Tryd.ntmps22
  go_wp2
  have g4 : ((w.alloc (.cells #[.int .i64 0, .int .i64 0, .string ⟨#[]⟩, .int .i64 0, .int .u64 0] 30)).alloc (.cells #[.int .i64 c, .int .i64 (a : Nat)] 25)).heap[w.heap.size]? = some (.cells #[.int .i64 0, .int .i64 0, .string ⟨#[]⟩, .int .i64 0, .int .u64 0] 30 (0, 0)) := (Below.heap_alloc _ _ _ (by simp)).trans (World.alloc_heap_new w _)
  have g6 : ((w.alloc (.cells #[.int .i64 0, .int .i64 0, .string ⟨#[]⟩, .int .i64 0, .int .u64 0] 30)).alloc (.cells #[.int .i64 c, .int .i64 (a : Nat)] 25)).heap[w.heap.size + 1]? = some (.cells #[.int .i64 c, .int .i64 (a : Nat)] 25 (0, 0)) := by
    have := World.alloc_heap_new (w.alloc (.cells #[.int .i64 0, .int .i64 0, .string ⟨#[]⟩, .int .i64 0, .int .u64 0] 30)) (.cells #[.int .i64 c, .int .i64 (a : Nat)] 25)
    rwa [World.size_alloc] at this
  refine bodyPost_ret (nx_ret rfl _ _ _ _ _ _ _ _ _ _ _ _ (0, 0) (0, 0) rfl rfl rfl g4 g6) rfl ?_
  exact ⟨rfl, ((Below.refl _ w).alloc (Nat.le_refl _) _).alloc (by simp) _⟩
/-- the two boxes of the results -/
structure Nx0 (w W : World) : Prop where
  bel : Below w.heap.size w W
  h4 : W.heap[w.heap.size]? = some (.cells #[.int .i64 0, .int .i64 0, .string ⟨#[]⟩, .int .i64 0, .int .u64 0] 30 (0, 0))
  h6 : W.heap[w.heap.size + 1]? = some (.cells #[.int .i64 0, .int .i64 0] 25 (0, 0))
theorem Nx0.start (w : World) : Nx0 w ((w.alloc (.cells #[.int .i64 0, .int .i64 0, .string ⟨#[]⟩, .int .i64 0, .int .u64 0] 30)).alloc (.cells #[.int .i64 0, .int .i64 0] 25)) := by
  refine ⟨((Below.refl _ w).alloc (Nat.le_refl _) _).alloc (by simp) _, (Below.heap_alloc _ _ _ (by simp)).trans (World.alloc_heap_new w _), ?_⟩
  have := World.alloc_heap_new (w.alloc (.cells #[.int .i64 0, .int .i64 0, .string ⟨#[]⟩, .int .i64 0, .int .u64 0] 30)) (.cells #[.int .i64 0, .int .i64 0] 25)
  rwa [World.size_alloc] at this
theorem Nx0.go {w W W' : World} (h : Nx0 w W) (hb : Below W.heap.size W W') : Nx0 w W' := ⟨h.bel.trans (hb.mono h.bel.size), row_keepX h.h4 hb, row_keepX h.h6 hb⟩
/-- both written -/
theorem Nx0.fin {w W : World} (h : Nx0 w W) (v0 v1 v2 v3 v4 c f : Value) :
    (((((((W.setCell ⟨w.heap.size, 0, none⟩ v0).setCell ⟨w.heap.size, 1, none⟩ v1).setCell ⟨w.heap.size, 2, none⟩ v2).setCell ⟨w.heap.size, 3, none⟩ v3).setCell ⟨w.heap.size, 4, none⟩ v4).setCell ⟨w.heap.size + 1, 0, none⟩ c).setCell ⟨w.heap.size + 1, 1, none⟩ f).heap[w.heap.size]? = some (.cells #[v0, v1, v2, v3, v4] 30 (0, 0)) ∧
    (((((((W.setCell ⟨w.heap.size, 0, none⟩ v0).setCell ⟨w.heap.size, 1, none⟩ v1).setCell ⟨w.heap.size, 2, none⟩ v2).setCell ⟨w.heap.size, 3, none⟩ v3).setCell ⟨w.heap.size, 4, none⟩ v4).setCell ⟨w.heap.size + 1, 0, none⟩ c).setCell ⟨w.heap.size + 1, 1, none⟩ f).heap[w.heap.size + 1]? = some (.cells #[c, f] 25 (0, 0)) ∧
    Below w.heap.size w (((((((W.setCell ⟨w.heap.size, 0, none⟩ v0).setCell ⟨w.heap.size, 1, none⟩ v1).setCell ⟨w.heap.size, 2, none⟩ v2).setCell ⟨w.heap.size, 3, none⟩ v3).setCell ⟨w.heap.size, 4, none⟩ v4).setCell ⟨w.heap.size + 1, 0, none⟩ c).setCell ⟨w.heap.size + 1, 1, none⟩ f) := by
  have h5 := five_setX h.h4 v0 v1 v2 v3 v4
  have b5 := five_belowX h.bel (gb := w.heap.size) (Nat.le_refl _) v0 v1 v2 v3 v4
  have o5 : (((((W.setCell ⟨w.heap.size, 0, none⟩ v0).setCell ⟨w.heap.size, 1, none⟩ v1).setCell ⟨w.heap.size, 2, none⟩ v2).setCell ⟨w.heap.size, 3, none⟩ v3).setCell ⟨w.heap.size, 4, none⟩ v4).heap[w.heap.size + 1]? = some (.cells #[.int .i64 0, .int .i64 0] 25 (0, 0)) := ((((Below.heap_setCell _ _ _ _ (by show w.heap.size + 1 ≠ w.heap.size; omega)).trans (Below.heap_setCell _ _ _ _ (by show w.heap.size + 1 ≠ w.heap.size; omega))).trans (Below.heap_setCell _ _ _ _ (by show w.heap.size + 1 ≠ w.heap.size; omega))).trans (Below.heap_setCell _ _ _ _ (by show w.heap.size + 1 ≠ w.heap.size; omega))).trans ((Below.heap_setCell _ _ _ _ (by show w.heap.size + 1 ≠ w.heap.size; omega)).trans h.h6)
  generalize ((((W.setCell ⟨w.heap.size, 0, none⟩ v0).setCell ⟨w.heap.size, 1, none⟩ v1).setCell ⟨w.heap.size, 2, none⟩ v2).setCell ⟨w.heap.size, 3, none⟩ v3).setCell ⟨w.heap.size, 4, none⟩ v4 = W5 at *
  refine ⟨((Below.heap_setCell _ _ _ _ (by show w.heap.size ≠ w.heap.size + 1; omega)).trans (Below.heap_setCell _ _ _ _ (by show w.heap.size ≠ w.heap.size + 1; omega))).trans h5, heap_setX (c := [c, .int .i64 0]) (heap_setX (c := [.int .i64 0, .int .i64 0]) o5 0 c) 1 f, (b5.setCell (p := ⟨w.heap.size + 1, 0, none⟩) (by show w.heap.size ≤ w.heap.size + 1; omega) c).setCell (p := ⟨w.heap.size + 1, 1, none⟩) (by show w.heap.size ≤ w.heap.size + 1; omega) f⟩
end Go.Proofs.YtfjkkndmngaaiaaDoor.W
/- casketref11: names. -/
namespace Go.Proofs.YtfjkkndmngaaiaaDoor.W
open Go.ChangeShapes Go.WideShapes Go.RowKit Go.Shelf
set_option linter.unusedVariables false
set_option linter.unusedSimpArgs false
theorem ext_take (s : ByteArray) (a n : Nat) : (s.extract a (a + n)).data.toList = (s.data.toList.drop a).take n := by
  simp [List.drop_take]
set_option maxRecDepth 100000 in
set_option maxHeartbeats 1000000 in
theorem rName_core (s S : ByteArray) (hs : s.size ≤ 1000000) (a n tE : Nat) (hto : tE = a + n) (hn0 : n ≠ 0) (han : a + n ≤ s.size) (hn : runN nameB (s.data.toList.drop a) = n) (hS : s.extract a tE = S) (hSz : S.size = n) (R : Value)
    (ways : (31 < n ∧ R = .tuple #[tv noTk 0, .int .i64 (a : Nat), .agg #[.int .i64 63, .int .i64 (a : Nat)]]) ∨ (¬ 31 < n ∧ ((∃ x : Int, ((S.toList == [105, 110, 102]) = true ∨ ((S.toList == [105, 110, 102]) = false ∧ (S.toList == [110, 97, 110]) = true)) ∧ (∀ w, Calls Tryd.prog 30 #[.string S] w fun e w' => e = .returned (.tuple #[.int .u64 x, .int .i64 0]) ∧ Below w.heap.size w w') ∧ R = .tuple #[tv ⟨5, ⟨#[]⟩, 0, x⟩ (a : Nat), .int .i64 (tE : Int), .agg #[.int .i64 0, .int .i64 0]]) ∨
      (∃ b : Bool, (S.toList == [105, 110, 102]) = false ∧ (S.toList == [110, 97, 110]) = false ∧ (∀ w, Calls Tryd.prog 31 #[.string S] w fun e w' => e = .returned (.bool b) ∧ w' = w) ∧ R = .tuple #[tv ⟨if b = true then 2 else 1, S, 0, 0⟩ (a : Nat), .int .i64 (tE : Int), .agg #[.int .i64 0, .int .i64 0]])))) (w : World) :
    Calls Tryd.prog 17 #[.string s, .int .i64 a] w fun e w' => e = .returned R ∧ Below w.heap.size w w' := by
  have cg := rGoesOn_c
  have cf := rFault_c 63 a
  simp only [tv, noTk] at cf
  have HS := hid hs
  have HA := hid (And.intro han hn)
  have HE := hid (And.intro hS hSz)
  have HTO := hid hto
  have HW := hid ways
  have HN0 := hid hn0
  have hN := Nx0.start w
  clear hs han hn hS hSz ways hn0 hto
  go_enter Tryd.func17, Tryd.ntmps17
  go_upto_region 1 with fail
  generalize World.alloc (World.alloc w _) _ = W at *
  have HN := hid hN
  clear hN
  go_wp2_with fail
  go_loop [7] (fun i => ∃ k : Nat, i = .int .i64 k ∧ a ≤ k ∧ k ≤ s.size ∧ runN nameB (s.data.toList.drop k) + k = tE) (fun i => s.size - (intOf i).toNat)
  case atStart => exact ⟨a, rfl, Nat.le_refl _, by have := HA.out.1; omega, by have := HA.out.2; have := HTO.out; omega⟩
  case round =>
    obtain ⟨k, rfl, h1, h2, h3⟩ := hrel
    have e1 : IntKind.i64.wrap ((k : Int) + 1) = ((k + 1 : Nat) : Int) := by have := HS.out; rw [IntKind.wrap_i64]; omega
    have e2 : wrap64 ((k : Int) + 1) = ((k + 1 : Nat) : Int) := by have := HS.out; unfold wrap64; omega
    have on : (k < s.size ∧ ∃ h : k < s.size, nameB s[k] = true) ∨ (k = tE ∧ (¬ k < s.size ∨ ∃ h : k < s.size, nameB s[k] = false)) := by
      by_cases c : k < s.size
      · have hd := drop_cons s k c
        cases b : nameB s[k]
        · right
          rw [hd, runN_cons_f b] at h3
          exact ⟨by omega, .inr ⟨c, b⟩⟩
        · exact .inl ⟨c, c, b⟩
      · right
        rw [List.drop_eq_nil_of_le (by rw [size_list]; omega)] at h3
        exact ⟨by have : runN nameB [] = 0 := rfl; omega, .inl c⟩
    rcases on with ⟨_, c, b⟩ | ⟨ek, hx⟩
    · have hd := drop_cons s k c
      have cgk := cg s[k]
      rw [b] at cgk
      have c1 : (k : Int) < (s.size : Int) := by omega
      have c0 : (0 : Int) ≤ (k : Int) := by omega
      have fin := hid (show runN nameB (s.data.toList.drop (k + 1)) + (k + 1) = tE by rw [hd, runN_cons_t b] at h3; omega)
      have HH := hid (And.intro h1 c)
      clear h1 h2 h3 hd b
      go_wp2_with (go_at_call 29; (with_reducible refine (cgk _).mono ?_); rintro e w' ⟨rfl, rfl⟩)
      go_round
      case rel => exact ⟨k + 1, by go_num, by have := HH.out.1; omega, HH.out.2, fin.out⟩
      case measure => have := HH.out.2; simp [intOf]; omega
    · subst ek
      obtain ⟨hS, hSz⟩ := HE.out
      have l0 : (0 : Int) ≤ (a : Int) := by omega
      have l1 : (a : Int) ≤ (k : Int) := by omega
      have l2 : (k : Int) ≤ (s.size : Int) := by omega
      have ex : (¬ (k : Int) < (s.size : Int)) ∨ ∃ h : k < s.size, ∀ w, Calls Tryd.prog 29 #[.int .u8 s[k].toNat] w fun e w' => e = .returned (.bool false) ∧ w' = w := by
        rcases hx with hx | ⟨h, hb⟩
        · left; omega
        · right; exact ⟨h, fun w => by have := cg s[k] w; rw [hb] at this; exact this⟩
      have HSZ := hid hSz
      clear hx h1 h2 h3 hSz e1 e2 cg
      have hN := HN.out
      rcases HW.out with ⟨b1, hR⟩ | ⟨b1, ⟨x, hb, cp, hR⟩ | ⟨b, hb1, hb2, cr, hR⟩⟩
      · have z1 : (S.size : Int) > 31 := by have := HSZ.out; omega
        have HR := hid hR
        clear hR b1 HW
        rcases ex with ex | ⟨hk, cgk⟩
        all_goals (
          go_wp2_with (first | (go_at_call 29; (with_reducible refine (cgk _).mono ?_); rintro e w' ⟨rfl, rfl⟩) | (go_at_call 22; (with_reducible refine (cf _).mono ?_); rintro e W2 ⟨rfl, hb⟩; (replace hN := hN.go hb); clear hb; (have k0 : W2.cell? ⟨w.heap.size, 0, none⟩ = some (.int .i64 0) := row_cellsX hN.h4 0); (have k1 : W2.cell? ⟨w.heap.size, 1, none⟩ = some (.int .i64 0) := row_cellsX hN.h4 1); (have k2 : W2.cell? ⟨w.heap.size, 2, none⟩ = some (.string ⟨#[]⟩) := row_cellsX hN.h4 2); (have k3 : W2.cell? ⟨w.heap.size, 3, none⟩ = some (.int .i64 0) := row_cellsX hN.h4 3); (have k4 : W2.cell? ⟨w.heap.size, 4, none⟩ = some (.int .u64 0) := row_cellsX hN.h4 4); (have k5 : W2.cell? ⟨w.heap.size + 1, 0, none⟩ = some (.int .i64 0) := row_cellsX hN.h6 0); (have k6 : W2.cell? ⟨w.heap.size + 1, 1, none⟩ = some (.int .i64 0) := row_cellsX hN.h6 1); (have z4 := row_thawX hN.h4); (have z6 := row_thawX hN.h6); (have HN2 := hid hN); clear hN))
          refine bodyPost_ret (nx_ret rfl _ _ w.heap.size (w.heap.size + 1) _ _ _ _ _ _ _ _ (0, 0) (0, 0) rfl rfl rfl (HN2.out.fin _ _ _ _ _ _ _).1 (HN2.out.fin _ _ _ _ _ _ _).2.1) rfl ?_
          exact ⟨by rw [HR.out]; rfl, (HN2.out.fin _ _ _ _ _ _ _).2.2⟩)
      · have z1 : ¬ (S.size : Int) > 31 := by have := HSZ.out; omega
        have HR := hid hR
        clear hR b1 HW
        rcases hb with hb | ⟨hb, hb2⟩
        all_goals rcases ex with ex | ⟨hk, cgk⟩
        all_goals (
          go_wp2_with (first | (go_at_call 29; (with_reducible refine (cgk _).mono ?_); rintro e w' ⟨rfl, rfl⟩) | (go_at_call 30; (with_reducible refine (cp _).mono ?_); rintro e W2 ⟨rfl, hb⟩; (replace hN := hN.go hb); clear hb; (have k0 : W2.cell? ⟨w.heap.size, 0, none⟩ = some (.int .i64 0) := row_cellsX hN.h4 0); (have k1 : W2.cell? ⟨w.heap.size, 1, none⟩ = some (.int .i64 0) := row_cellsX hN.h4 1); (have k2 : W2.cell? ⟨w.heap.size, 2, none⟩ = some (.string ⟨#[]⟩) := row_cellsX hN.h4 2); (have k3 : W2.cell? ⟨w.heap.size, 3, none⟩ = some (.int .i64 0) := row_cellsX hN.h4 3); (have k4 : W2.cell? ⟨w.heap.size, 4, none⟩ = some (.int .u64 0) := row_cellsX hN.h4 4); (have k5 : W2.cell? ⟨w.heap.size + 1, 0, none⟩ = some (.int .i64 0) := row_cellsX hN.h6 0); (have k6 : W2.cell? ⟨w.heap.size + 1, 1, none⟩ = some (.int .i64 0) := row_cellsX hN.h6 1); (have z4 := row_thawX hN.h4); (have z6 := row_thawX hN.h6); (have HN2 := hid hN); clear hN))
          refine bodyPost_ret (nx_ret rfl _ _ w.heap.size (w.heap.size + 1) _ _ _ _ _ _ _ _ (0, 0) (0, 0) rfl rfl rfl (HN2.out.fin _ _ _ _ _ _ _).1 (HN2.out.fin _ _ _ _ _ _ _).2.1) rfl ?_
          exact ⟨by rw [HR.out]; rfl, (HN2.out.fin _ _ _ _ _ _ _).2.2⟩)
      · have z1 : ¬ (S.size : Int) > 31 := by have := HSZ.out; omega
        have HR := hid hR
        have HN2 := hid hN
        have k0 : W.cell? ⟨w.heap.size, 0, none⟩ = some (.int .i64 0) := row_cellsX hN.h4 0; have k1 : W.cell? ⟨w.heap.size, 1, none⟩ = some (.int .i64 0) := row_cellsX hN.h4 1; have k2 : W.cell? ⟨w.heap.size, 2, none⟩ = some (.string ⟨#[]⟩) := row_cellsX hN.h4 2; have k3 : W.cell? ⟨w.heap.size, 3, none⟩ = some (.int .i64 0) := row_cellsX hN.h4 3; have k4 : W.cell? ⟨w.heap.size, 4, none⟩ = some (.int .u64 0) := row_cellsX hN.h4 4; have k5 : W.cell? ⟨w.heap.size + 1, 0, none⟩ = some (.int .i64 0) := row_cellsX hN.h6 0; have k6 : W.cell? ⟨w.heap.size + 1, 1, none⟩ = some (.int .i64 0) := row_cellsX hN.h6 1; have z4 := row_thawX hN.h4; have z6 := row_thawX hN.h6
        clear hR b1 HW hN
        cases b
        all_goals rcases ex with ex | ⟨hk, cgk⟩
        all_goals (
          go_wp2_with (first | (go_at_call 29; (with_reducible refine (cgk _).mono ?_); rintro e w' ⟨rfl, rfl⟩) | (go_at_call 31; (with_reducible refine (cr _).mono ?_); rintro e w' ⟨rfl, rfl⟩))
          refine bodyPost_ret (nx_ret rfl _ _ w.heap.size (w.heap.size + 1) _ _ _ _ _ _ _ _ (0, 0) (0, 0) rfl rfl rfl (HN2.out.fin _ _ _ _ _ _ _).1 (HN2.out.fin _ _ _ _ _ _ _).2.1) rfl ?_
          exact ⟨by rw [HR.out]; rfl, (HN2.out.fin _ _ _ _ _ _ _).2.2⟩)
end Go.Proofs.YtfjkkndmngaaiaaDoor.W
/- casketref11: names, whole numbers, a string that does not end. -/
namespace Go.Proofs.YtfjkkndmngaaiaaDoor.W
open Go.ChangeShapes Go.WideShapes Go.RowKit Go.Shelf
set_option linter.unusedVariables false
set_option linter.unusedSimpArgs false
theorem start_dig (c : UInt8) (h : startB c = true) : digB c = false ∧ nameB c = true := by
  rw [name_start, h]
  refine ⟨?_, rfl⟩
  unfold startB at h
  unfold digB
  simp at h ⊢
  omega
theorem readF_inf : readF infT = (9218868437227405312, 0) := by kernel_rfl
theorem readF_nan : readF nanT = (9221120237041090560, 0) := by kernel_rfl
theorem rName_c (s : ByteArray) (hs : s.size ≤ 1000000) (a : Nat) (ha : a < s.size) (hst : startB s[a] = true) (w : World) : Calls Tryd.prog 17 #[.string s, .int .i64 a] w fun e w' => e = .returned (nxR (nameP (s.data.toList.drop a)) a) ∧ Below w.heap.size w w' := by
  have hd := drop_cons s a ha
  obtain ⟨d1, d2⟩ := start_dig _ hst
  obtain ⟨n, hn⟩ : ∃ n, runN nameB (s.data.toList.drop a) = n := ⟨_, rfl⟩
  have hle := runN_le nameB (s.data.toList.drop a)
  rw [List.length_drop, size_list, hn] at hle
  have hn0 : n ≠ 0 := by rw [← hn, hd, runN_cons_t d2]; omega
  obtain ⟨S, hS⟩ : ∃ S, s.extract a (a + n) = S := ⟨_, rfl⟩
  have hSl : S.data.toList = (s.data.toList.drop a).take n := by rw [← hS]; exact ext_take s a n
  have hSz : S.size = n := by rw [← size_list, hSl, List.length_take, List.length_drop, size_list]; omega
  have hnp : nameP (s.data.toList.drop a) = if 31 < n then badPc n 63 else okPc (namedT ((s.data.toList.drop a).take n)) n := by
    unfold nameP
    rw [hn, if_neg]
    rintro (h | h)
    · exact hn0 h
    · rw [hd] at h
      have : digB s[a] = true := h
      rw [d1] at this
      cases this
  rw [hnp]
  refine rName_core s S hs a n (a + n) rfl hn0 (by omega) hn hS hSz _ ?_ w
  by_cases c : 31 < n
  · left
    rw [if_pos c]
    exact ⟨c, nx_bad n 63 a hn0 (by decide)⟩
  · right
    rw [if_neg c, nx_ok _ n a hn0, ← hSl]
    refine ⟨c, ?_⟩
    have hSL : S.toList = S.data.toList := toList_eq S
    rw [hSL]
    have cp := fun w => refParseFloat_c S (by rw [hSz]; unfold maxLen; omega) w
    unfold namedT
    by_cases i1 : S.data.toList = infT
    · left
      rw [i1, readF_inf] at cp
      refine ⟨9218868437227405312, .inl (by rw [i1]; rfl), cp, by rw [if_pos i1]⟩
    · have n1 : (S.data.toList == [105, 110, 102]) = false := by rw [beq_eq_false_iff_ne]; exact i1
      by_cases i2 : S.data.toList = nanT
      · left
        rw [i2, readF_nan] at cp
        refine ⟨9221120237041090560, .inr ⟨n1, by rw [i2]; rfl⟩, cp, by rw [if_neg i1, if_pos i2]⟩
      · right
        have n2 : (S.data.toList == [110, 97, 110]) = false := by rw [beq_eq_false_iff_ne]; exact i2
        refine ⟨decide (S.data.toList ∈ words), n1, n2, fun w => rReserved_c S w, ?_⟩
        rw [if_neg i1, if_neg i2]
        by_cases i3 : S.data.toList ∈ words
        · rw [if_pos i3, decide_eq_true i3, bytes_self]; rfl
        · rw [if_neg i3, decide_eq_false i3, bytes_self]; rfl
set_option maxRecDepth 100000 in
set_option maxHeartbeats 1000000 in
theorem rWhole_core (s S : ByteArray) (hs : s.size ≤ 1000000) (a n tE : Nat) (ha : a < s.size) (hto : tE = a + n) (hn0 : n ≠ 0) (han : a + n ≤ s.size) (hn : runN digB (s.data.toList.drop a) = n) (hS : s.extract a tE = S) (x c : Int) (cp : ∀ w, Calls Tryd.prog 33 #[.string S] w fun e w' => e = .returned (.tuple #[.int .i64 x, .int .i64 c]) ∧ w' = w) (hx : (((s[a].toNat : Int) == 48) = false) ∨ (((s[a].toNat : Int) == 48) = true ∧ (¬ ((a + 1 : Nat) : Int) < (s.size : Int) ∨ ∃ h : a + 1 < s.size, ((s[a + 1].toNat : Int) == 120) = false))) (R : Value)
    (ways : (c ≠ 0 ∧ R = .tuple #[tv noTk 0, .int .i64 (a : Nat), .agg #[.int .i64 62, .int .i64 (a : Nat)]]) ∨ (c = 0 ∧ R = .tuple #[tv ⟨4, ⟨#[]⟩, x, 0⟩ (a : Nat), .int .i64 (tE : Int), .agg #[.int .i64 0, .int .i64 0]])) (w : World) :
    Calls Tryd.prog 19 #[.string s, .int .i64 a] w fun e w' => e = .returned R ∧ Below w.heap.size w w' := by
  have cg := rDigit_c
  have cf := rFault_c 62 a
  simp only [tv, noTk] at cf
  have HS := hid hs
  have HA := hid (And.intro han hn)
  have HTO := hid hto
  have HE := hid hS
  have HW := hid ways
  have hN := Nx0.start w
  have a0 : (0 : Int) ≤ (a : Int) := by omega
  have a1 : (a : Int) < (s.size : Int) := by omega
  have a2 : IntKind.i64.wrap ((a : Int) + 1) = ((a + 1 : Nat) : Int) := by rw [IntKind.wrap_i64]; omega
  have a3 : wrap64 ((a : Int) + 1) = ((a + 1 : Nat) : Int) := by unfold wrap64; omega
  have a4 : (0 : Int) ≤ ((a + 1 : Nat) : Int) := by omega
  clear hs han hn hS ways hn0 hto
  rcases hx with hx | ⟨hx, hy | ⟨hy1, hy2⟩⟩
  all_goals (
    (try have a5 : ((a + 1 : Nat) : Int) < (s.size : Int) := by omega)
    go_enter Tryd.func19, Tryd.ntmps19
    go_upto_region 1 with fail
    generalize World.alloc (World.alloc w _) _ = W at *
    have HN := hid hN
    clear hN
    go_wp2_with fail
    go_loop [7] (fun i => ∃ k : Nat, i = .int .i64 k ∧ a ≤ k ∧ k ≤ s.size ∧ runN digB (s.data.toList.drop k) + k = tE) (fun i => s.size - (intOf i).toNat)
    case atStart => exact ⟨a, rfl, Nat.le_refl _, by have := HA.out.1; omega, by have := HA.out.2; have := HTO.out; omega⟩
    case round =>
      obtain ⟨k, rfl, h1, h2, h3⟩ := hrel
      have e1 : IntKind.i64.wrap ((k : Int) + 1) = ((k + 1 : Nat) : Int) := by have := HS.out; rw [IntKind.wrap_i64]; omega
      have e2 : wrap64 ((k : Int) + 1) = ((k + 1 : Nat) : Int) := by have := HS.out; unfold wrap64; omega
      have on : (k < s.size ∧ ∃ h : k < s.size, digB s[k] = true) ∨ (k = tE ∧ (¬ k < s.size ∨ ∃ h : k < s.size, digB s[k] = false)) := by
        by_cases c : k < s.size
        · have hd := drop_cons s k c
          cases b : digB s[k]
          · right
            rw [hd, runN_cons_f b] at h3
            exact ⟨by omega, .inr ⟨c, b⟩⟩
          · exact .inl ⟨c, c, b⟩
        · right
          rw [List.drop_eq_nil_of_le (by rw [size_list]; omega)] at h3
          exact ⟨by have : runN digB [] = 0 := rfl; omega, .inl c⟩
      rcases on with ⟨_, c, b⟩ | ⟨ek, hx2⟩
      · have hd := drop_cons s k c
        have cgk := cg s[k]
        rw [b] at cgk
        have c1 : (k : Int) < (s.size : Int) := by omega
        have c0 : (0 : Int) ≤ (k : Int) := by omega
        have fin := hid (show runN digB (s.data.toList.drop (k + 1)) + (k + 1) = tE by rw [hd, runN_cons_t b] at h3; omega)
        have HH := hid (And.intro h1 c)
        clear h1 h2 h3 hd b
        go_wp2_with (go_at_call 18; (with_reducible refine (cgk _).mono ?_); rintro e w' ⟨rfl, rfl⟩)
        go_round
        case rel => exact ⟨k + 1, by go_num, by have := HH.out.1; omega, HH.out.2, fin.out⟩
        case measure => have := HH.out.2; simp [intOf]; omega
      · subst ek
        have hS := HE.out
        have l1 : (a : Int) ≤ (k : Int) := by omega
        have l2 : (k : Int) ≤ (s.size : Int) := by omega
        have ex : (¬ (k : Int) < (s.size : Int)) ∨ ∃ h : k < s.size, ∀ w, Calls Tryd.prog 18 #[.int .u8 s[k].toNat] w fun e w' => e = .returned (.bool false) ∧ w' = w := by
          rcases hx2 with hx2 | ⟨h, hb⟩
          · left; omega
          · right; exact ⟨h, fun w => by have := cg s[k] w; rw [hb] at this; exact this⟩
        clear hx2 h1 h2 h3 e1 e2 cg
        have hN := HN.out
        rcases HW.out with ⟨b1, hR⟩ | ⟨b1, hR⟩
        · have HR := hid hR
          clear hR HW
          rcases ex with ex | ⟨hk, cgk⟩
          all_goals (
            go_wp2_with (first | (go_at_call 18; (with_reducible refine (cgk _).mono ?_); rintro e w' ⟨rfl, rfl⟩) | (go_at_call 33; (with_reducible refine (cp _).mono ?_); rintro e w' ⟨rfl, rfl⟩) | (go_at_call 22; (with_reducible refine (cf _).mono ?_); rintro e W2 ⟨rfl, hb⟩; (replace hN := hN.go hb); clear hb; (have k0 : W2.cell? ⟨w.heap.size, 0, none⟩ = some (.int .i64 0) := row_cellsX hN.h4 0); (have k1 : W2.cell? ⟨w.heap.size, 1, none⟩ = some (.int .i64 0) := row_cellsX hN.h4 1); (have k2 : W2.cell? ⟨w.heap.size, 2, none⟩ = some (.string ⟨#[]⟩) := row_cellsX hN.h4 2); (have k3 : W2.cell? ⟨w.heap.size, 3, none⟩ = some (.int .i64 0) := row_cellsX hN.h4 3); (have k4 : W2.cell? ⟨w.heap.size, 4, none⟩ = some (.int .u64 0) := row_cellsX hN.h4 4); (have k5 : W2.cell? ⟨w.heap.size + 1, 0, none⟩ = some (.int .i64 0) := row_cellsX hN.h6 0); (have k6 : W2.cell? ⟨w.heap.size + 1, 1, none⟩ = some (.int .i64 0) := row_cellsX hN.h6 1); (have z4 := row_thawX hN.h4); (have z6 := row_thawX hN.h6); (have HN2 := hid hN); clear hN))
            refine bodyPost_ret (nx_ret rfl _ _ w.heap.size (w.heap.size + 1) _ _ _ _ _ _ _ _ (0, 0) (0, 0) rfl rfl rfl (HN2.out.fin _ _ _ _ _ _ _).1 (HN2.out.fin _ _ _ _ _ _ _).2.1) rfl ?_
            exact ⟨by rw [HR.out]; rfl, (HN2.out.fin _ _ _ _ _ _ _).2.2⟩)
        · have HR := hid hR
          have HN2 := hid hN
          subst b1
          have k0 : W.cell? ⟨w.heap.size, 0, none⟩ = some (.int .i64 0) := row_cellsX hN.h4 0; have k1 : W.cell? ⟨w.heap.size, 1, none⟩ = some (.int .i64 0) := row_cellsX hN.h4 1; have k2 : W.cell? ⟨w.heap.size, 2, none⟩ = some (.string ⟨#[]⟩) := row_cellsX hN.h4 2; have k3 : W.cell? ⟨w.heap.size, 3, none⟩ = some (.int .i64 0) := row_cellsX hN.h4 3; have k4 : W.cell? ⟨w.heap.size, 4, none⟩ = some (.int .u64 0) := row_cellsX hN.h4 4; have k5 : W.cell? ⟨w.heap.size + 1, 0, none⟩ = some (.int .i64 0) := row_cellsX hN.h6 0; have k6 : W.cell? ⟨w.heap.size + 1, 1, none⟩ = some (.int .i64 0) := row_cellsX hN.h6 1; have z4 := row_thawX hN.h4; have z6 := row_thawX hN.h6
          clear hR HW hN
          rcases ex with ex | ⟨hk, cgk⟩
          all_goals (
            go_wp2_with (first | (go_at_call 18; (with_reducible refine (cgk _).mono ?_); rintro e w' ⟨rfl, rfl⟩) | (go_at_call 33; (with_reducible refine (cp _).mono ?_); rintro e w' ⟨rfl, rfl⟩))
            refine bodyPost_ret (nx_ret rfl _ _ w.heap.size (w.heap.size + 1) _ _ _ _ _ _ _ _ (0, 0) (0, 0) rfl rfl rfl (HN2.out.fin _ _ _ _ _ _ _).1 (HN2.out.fin _ _ _ _ _ _ _).2.1) rfl ?_
            exact ⟨by rw [HR.out]; rfl, (HN2.out.fin _ _ _ _ _ _ _).2.2⟩))
end Go.Proofs.YtfjkkndmngaaiaaDoor.W
/- casketref11: a string that does not end; Next. -/
namespace Go.Proofs.YtfjkkndmngaaiaaDoor.W
open Go.ChangeShapes Go.WideShapes Go.RowKit Go.Shelf
set_option linter.unusedVariables false
set_option linter.unusedSimpArgs false
set_option maxRecDepth 100000 in
set_option maxHeartbeats 1000000 in
theorem rText_end (s : ByteArray) (hs : s.size ≤ 1000000) (a : Nat) (ha : a + 1 = s.size) (w : World) :
    Calls Tryd.prog 20 #[.string s, .int .i64 a] w fun e w' => e = .returned (.tuple #[tv noTk 0, .int .i64 (a : Nat), .agg #[.int .i64 61, .int .i64 (a : Nat)]]) ∧ Below w.heap.size w w' := by
  have cf := rFault_c 61 a
  simp only [tv, noTk] at cf ⊢
  have hN := Nx0.start w
  have a2 : IntKind.i64.wrap ((a : Int) + 1) = ((a + 1 : Nat) : Int) := by rw [IntKind.wrap_i64]; omega
  have a3 : wrap64 ((a : Int) + 1) = ((a + 1 : Nat) : Int) := by unfold wrap64; omega
  have a4 : ¬ ((a + 1 : Nat) : Int) < (s.size : Int) := by omega
  clear hs ha
  go_enter Tryd.func20, Tryd.ntmps20
  go_upto_region 1 with fail
  generalize World.alloc (World.alloc w _) _ = W at *
  replace hN := hN.go ((Below.refl _ W).alloc (Nat.le_refl _) (.cells #[] 5))
  go_upto_region 2 with fail
  generalize World.alloc W _ = W3 at *
  go_wp2_with fail
  refine wp_loop_rounds 2 ?_
  rw [rounds_succ]
  go_wp2_with (go_at_call 22; (with_reducible refine (cf _).mono ?_); rintro e W2 ⟨rfl, hb⟩; (replace hN := hN.go hb); clear hb; (have k0 : W2.cell? ⟨w.heap.size, 0, none⟩ = some (.int .i64 0) := row_cellsX hN.h4 0); (have k1 : W2.cell? ⟨w.heap.size, 1, none⟩ = some (.int .i64 0) := row_cellsX hN.h4 1); (have k2 : W2.cell? ⟨w.heap.size, 2, none⟩ = some (.string ⟨#[]⟩) := row_cellsX hN.h4 2); (have k3 : W2.cell? ⟨w.heap.size, 3, none⟩ = some (.int .i64 0) := row_cellsX hN.h4 3); (have k4 : W2.cell? ⟨w.heap.size, 4, none⟩ = some (.int .u64 0) := row_cellsX hN.h4 4); (have k5 : W2.cell? ⟨w.heap.size + 1, 0, none⟩ = some (.int .i64 0) := row_cellsX hN.h6 0); (have k6 : W2.cell? ⟨w.heap.size + 1, 1, none⟩ = some (.int .i64 0) := row_cellsX hN.h6 1); (have z4 := row_thawX hN.h4); (have z6 := row_thawX hN.h6); (have HN2 := hid hN); clear hN)
  refine bodyPost_ret (nx_ret rfl _ _ w.heap.size (w.heap.size + 1) _ _ _ _ _ _ _ _ (0, 0) (0, 0) rfl rfl rfl (HN2.out.fin _ _ _ _ _ _ _).1 (HN2.out.fin _ _ _ _ _ _ _).2.1) rfl ?_
  exact ⟨rfl, (HN2.out.fin _ _ _ _ _ _ _).2.2⟩
/-- what begins where no gap does -/
def restP (r : List UInt8) : Pc := orPc (nameP r) (orPc (doubleP r) (orPc (wholeP r) (orPc (quotedP r) (markP r))))
def nextR (r : List UInt8) (a : Nat) : Value := if r = [] then .tuple #[tv endTk (a : Nat), .int .i64 (a : Nat), .agg #[.int .i64 0, .int .i64 0]] else nxR (restP r) a
theorem piece_rest (r : List UInt8) (h : NoGap r) : pieceP r = restP r := by
  unfold pieceP restP
  cases r with
  | nil => rfl
  | cons c r =>
    obtain ⟨h1, h2⟩ := h c rfl
    exact orPc_none (gap_none c r h1 h2)
theorem nx_form (p : Pc) (a : Nat) : ∃ t x to' c f, nxR p a = .tuple #[tv t x, .int .i64 to', .agg #[.int .i64 c, .int .i64 f]] := by
  unfold nxR
  split
  · exact ⟨_, _, _, _, _, rfl⟩
  · split
    · exact ⟨_, _, _, _, _, rfl⟩
    · exact ⟨_, _, _, _, _, rfl⟩
theorem not_name (c : UInt8) (r : List UInt8) (h : startB c = false) : nameP (c :: r) = noPc := by
  unfold nameP
  refine if_pos ?_
  cases hd : digB c
  · left
    exact runN_cons_f (by rw [name_start, h, hd]; rfl)
  · right; exact hd
theorem not_num (c : UInt8) (r : List UInt8) (h : digB c = false) : doubleP (c :: r) = noPc ∧ wholeP (c :: r) = noPc := by
  constructor
  · unfold doubleP
    refine if_neg ?_
    intro e
    have : c = 48 := by
      have := congrArg List.head? e
      simpa [hexT] using this
    subst this
    revert h; decide
  · unfold wholeP
    exact if_pos (runN_cons_f h)
theorem not_quote (c : UInt8) (r : List UInt8) (h : c ≠ 34) : quotedP (c :: r) = noPc := if_neg (fun e => h (by simpa using e))
theorem or_no (b : Pc) : orPc noPc b = b := rfl
theorem or_size {a b : Pc} (h : ¬ a.size = 0) : orPc a b = a := if_neg h
def marks2 : List (List UInt8) := [[61, 61], [33, 61], [60, 61], [62, 61], [60, 60], [62, 62], [47, 47], [46, 46]]
def marks1 : List (List UInt8) := [[43], [45], [42], [47], [37], [38], [124], [94], [126], [60], [62], [61], [40], [41], [123], [125], [91], [93], [44], [59], [58]]
theorem find_len (r : List UInt8) (n : Nat) (L : List (List UInt8)) (hL : ∀ m ∈ L, m.length = n) : L.find? (fun m => r.take m.length == m) = if r.take n ∈ L then some (r.take n) else none := by
  induction L with
  | nil => rfl
  | cons m L ih =>
    have hm := hL m (by simp)
    have ih' := ih (fun m h => hL m (by simp [h]))
    rw [List.find?_cons, hm]
    by_cases c : r.take n = m
    · rw [c]
      simp
    · have e : (r.take n == m) = false := by rw [beq_eq_false_iff_ne]; exact c
      rw [e, ih']
      simp [c]
theorem mark_form (r : List UInt8) : markP r = if r.take 2 ∈ marks2 then okPc ⟨3, bytesOf (r.take 2), 0, 0⟩ 2 else if r.take 1 ∈ marks1 then okPc ⟨3, bytesOf (r.take 1), 0, 0⟩ 1 else noPc := by
  have hm : marks = marks2 ++ marks1 := rfl
  have l2 : ∀ m ∈ marks2, m.length = 2 := by decide
  have l1 : ∀ m ∈ marks1, m.length = 1 := by decide
  unfold markP
  rw [hm, List.find?_append, find_len r 2 marks2 l2, find_len r 1 marks1 l1]
  by_cases c : r.take 2 ∈ marks2
  · rw [if_pos c, if_pos c]
    show okPc ⟨3, bytesOf (r.take 2), 0, 0⟩ (r.take 2).length = _
    rw [l2 _ c]
  · rw [if_neg c, if_neg c]
    by_cases d : r.take 1 ∈ marks1
    · rw [if_pos d, if_pos d]
      show okPc ⟨3, bytesOf (r.take 1), 0, 0⟩ (r.take 1).length = _
      rw [l1 _ d]
    · rw [if_neg d, if_neg d]
      rfl
theorem mem_two (l : List UInt8) (h : l.length = 2) : l ∈ marks ↔ l ∈ marks2 := by
  have hm : marks = marks2 ++ marks1 := rfl
  have l1 : ∀ m ∈ marks1, m.length = 1 := by decide
  rw [hm, List.mem_append]
  constructor
  · rintro (h1 | h1)
    · exact h1
    · have := l1 _ h1; omega
  · exact .inl
theorem mem_one (l : List UInt8) (h : l.length = 1) : l ∈ marks ↔ l ∈ marks1 := by
  have hm : marks = marks2 ++ marks1 := rfl
  have l2 : ∀ m ∈ marks2, m.length = 2 := by decide
  rw [hm, List.mem_append]
  constructor
  · rintro (h1 | h1)
    · have := l2 _ h1; omega
    · exact h1
  · exact .inr
theorem rest_start (c : UInt8) (r : List UInt8) (h : startB c = true) : restP (c :: r) = nameP (c :: r) := by
  unfold restP
  obtain ⟨d1, d2⟩ := start_dig c h
  refine or_size ?_
  unfold nameP
  rw [if_neg]
  · have : runN nameB (c :: r) ≠ 0 := by rw [runN_cons_t d2]; omega
    split
    · exact this
    · exact this
  · rintro (g | g)
    · rw [runN_cons_t d2] at g; omega
    · have : digB c = true := g
      rw [d1] at this; cases this
theorem rest_digit (c : UInt8) (r : List UInt8) (h : digB c = true) : restP (c :: r) = orPc (doubleP (c :: r)) (wholeP (c :: r)) := by
  have hs : startB c = false := by
    cases e : startB c
    · rfl
    · rw [(start_dig c e).1] at h; cases h
  have hw : ¬ (wholeP (c :: r)).size = 0 := by
    have sz : (wholeP (c :: r)).size = runN digB (c :: r) := by
      unfold wholeP
      split
      · rename_i g; rw [g]; rfl
      · split <;> rfl
    rw [sz, runN_cons_t h]; omega
  unfold restP
  rw [not_name c r hs, or_no, or_size hw]
theorem rest_quote (r : List UInt8) : restP (34 :: r) = quotedP (34 :: r) := by
  unfold restP
  rw [not_name 34 r (by decide), or_no, (not_num 34 r (by decide)).1, or_no, (not_num 34 r (by decide)).2, or_no]
  refine or_size ?_
  have e : quotedP (34 :: r) = quoteGo (34 :: r).length r 1 [] := by unfold quotedP; rw [if_pos (show (34 :: r).head? = some 34 from rfl)]; rfl
  rw [e]
  have := quote_ge (34 :: r).length r 1 []
  omega
theorem rest_mark (c : UInt8) (r : List UInt8) (h1 : startB c = false) (h2 : digB c = false) (h3 : c ≠ 34) : restP (c :: r) = markP (c :: r) := by
  unfold restP
  rw [not_name c r h1, or_no, (not_num c r h2).1, or_no, (not_num c r h2).2, or_no, not_quote c r h3, or_no]
set_option maxRecDepth 100000 in
set_option maxHeartbeats 1000000 in
theorem rNext_c (s : ByteArray) (hs : s.size ≤ 1000000) (a : Nat) (ha : a ≤ s.size) (cn : ∀ h : a < s.size, digB s[a] = true → ∀ w, Calls Tryd.prog 19 #[.string s, .int .i64 a] w fun e w' => e = .returned (nxR (orPc (doubleP (s.data.toList.drop a)) (wholeP (s.data.toList.drop a))) a) ∧ Below w.heap.size w w')
    (cq : ∀ h : a < s.size, s[a].toNat = 34 → ∀ w, Calls Tryd.prog 20 #[.string s, .int .i64 a] w fun e w' => e = .returned (nxR (quotedP (s.data.toList.drop a)) a) ∧ Below w.heap.size w w') (w : World) :
    Calls Tryd.prog 13 #[.string s, .int .i64 a] w fun e w' => e = .returned (nextR (s.data.toList.drop a) a) ∧ Below w.heap.size w w' := by
  have hN := Nx0.start w
  by_cases ea : a = s.size
  · have e1 : (a : Int) = (s.size : Int) := by omega
    have er : nextR (s.data.toList.drop a) a = .tuple #[tv endTk (a : Nat), .int .i64 (a : Nat), .agg #[.int .i64 0, .int .i64 0]] := if_pos (List.drop_eq_nil_of_le (by rw [size_list]; omega))
    rw [er]
    simp only [tv, endTk]
    clear cn cq er hs ha
    have e2 : ((a : Int) == (s.size : Int)) = true := by simp [e1]
    clear e1 ea
    go_enter Tryd.func13, Tryd.ntmps13
    go_upto_region 1 with fail
    generalize World.alloc (World.alloc w _) _ = W at *
    have HN2 := hid hN
    have k0 : W.cell? ⟨w.heap.size, 0, none⟩ = some (.int .i64 0) := row_cellsX hN.h4 0; have k1 : W.cell? ⟨w.heap.size, 1, none⟩ = some (.int .i64 0) := row_cellsX hN.h4 1; have k2 : W.cell? ⟨w.heap.size, 2, none⟩ = some (.string ⟨#[]⟩) := row_cellsX hN.h4 2; have k3 : W.cell? ⟨w.heap.size, 3, none⟩ = some (.int .i64 0) := row_cellsX hN.h4 3; have k4 : W.cell? ⟨w.heap.size, 4, none⟩ = some (.int .u64 0) := row_cellsX hN.h4 4; have k5 : W.cell? ⟨w.heap.size + 1, 0, none⟩ = some (.int .i64 0) := row_cellsX hN.h6 0; have k6 : W.cell? ⟨w.heap.size + 1, 1, none⟩ = some (.int .i64 0) := row_cellsX hN.h6 1; have z4 := row_thawX hN.h4; have z6 := row_thawX hN.h6
    clear hN
    go_wp2
    refine bodyPost_ret (nx_ret rfl _ _ w.heap.size (w.heap.size + 1) _ _ _ _ _ _ _ _ (0, 0) (0, 0) rfl rfl rfl (HN2.out.fin _ _ _ _ _ _ _).1 (HN2.out.fin _ _ _ _ _ _ _).2.1) rfl ?_
    exact ⟨rfl, (HN2.out.fin _ _ _ _ _ _ _).2.2⟩
  · have hlt : a < s.size := by omega
    have hd := drop_cons s a hlt
    have a0 : (0 : Int) ≤ (a : Int) := by omega
    have a1 : (a : Int) < (s.size : Int) := by omega
    have a2 : ((a : Int) == (s.size : Int)) = false := by simp; omega
    have er : nextR (s.data.toList.drop a) a = nxR (restP (s.data.toList.drop a)) a := if_neg (by rw [hd]; simp)
    rw [er]
    have cs := rStarts_c s[a]
    have cd := rDigit_c s[a]
    by_cases b1 : startB s[a] = true
    · have hr := rest_start s[a] (s.data.toList.drop (a + 1)) b1
      rw [← hd] at hr
      rw [hr]
      have cm := fun w => rName_c s hs a hlt b1 w
      obtain ⟨t, x, y, c, f, hf⟩ := nx_form (nameP (s.data.toList.drop a)) a
      rw [hf] at cm ⊢
      rw [b1] at cs
      simp only [tv] at cm ⊢
      clear cn cq er hs ha hd hr hf ea cd b1
      go_enter Tryd.func13, Tryd.ntmps13
      go_upto_region 1 with fail
      generalize World.alloc (World.alloc w _) _ = W at *
      go_wp2_with (first | (go_at_call 16; (with_reducible refine (cs _).mono ?_); rintro e w' ⟨rfl, rfl⟩) | (go_at_call 17; (with_reducible refine (cm _).mono ?_); rintro e W2 ⟨rfl, hb⟩; (replace hN := hN.go hb); clear hb; (have k0 : W2.cell? ⟨w.heap.size, 0, none⟩ = some (.int .i64 0) := row_cellsX hN.h4 0); (have k1 : W2.cell? ⟨w.heap.size, 1, none⟩ = some (.int .i64 0) := row_cellsX hN.h4 1); (have k2 : W2.cell? ⟨w.heap.size, 2, none⟩ = some (.string ⟨#[]⟩) := row_cellsX hN.h4 2); (have k3 : W2.cell? ⟨w.heap.size, 3, none⟩ = some (.int .i64 0) := row_cellsX hN.h4 3); (have k4 : W2.cell? ⟨w.heap.size, 4, none⟩ = some (.int .u64 0) := row_cellsX hN.h4 4); (have k5 : W2.cell? ⟨w.heap.size + 1, 0, none⟩ = some (.int .i64 0) := row_cellsX hN.h6 0); (have k6 : W2.cell? ⟨w.heap.size + 1, 1, none⟩ = some (.int .i64 0) := row_cellsX hN.h6 1); (have z4 := row_thawX hN.h4); (have z6 := row_thawX hN.h6); (have HN2 := hid hN); clear hN))
      refine bodyPost_ret (nx_ret rfl _ _ w.heap.size (w.heap.size + 1) _ _ _ _ _ _ _ _ (0, 0) (0, 0) rfl rfl rfl (HN2.out.fin _ _ _ _ _ _ _).1 (HN2.out.fin _ _ _ _ _ _ _).2.1) rfl ?_
      exact ⟨rfl, (HN2.out.fin _ _ _ _ _ _ _).2.2⟩
    · have b1' : startB s[a] = false := by simpa using b1
      rw [b1'] at cs
      by_cases b2 : digB s[a] = true
      · have hr := rest_digit s[a] (s.data.toList.drop (a + 1)) b2
        rw [← hd] at hr
        rw [hr]
        have cm := cn hlt b2
        obtain ⟨t, x, y, c, f, hf⟩ := nx_form (orPc (doubleP (s.data.toList.drop a)) (wholeP (s.data.toList.drop a))) a
        rw [hf] at cm ⊢
        rw [b2] at cd
        simp only [tv] at cm ⊢
        clear cn cq er hs ha hd hr hf ea b1 b1' b2
        go_enter Tryd.func13, Tryd.ntmps13
        go_upto_region 1 with fail
        generalize World.alloc (World.alloc w _) _ = W at *
        go_wp2_with (first | (go_at_call 16; (with_reducible refine (cs _).mono ?_); rintro e w' ⟨rfl, rfl⟩) | (go_at_call 18; (with_reducible refine (cd _).mono ?_); rintro e w' ⟨rfl, rfl⟩) | (go_at_call 19; (with_reducible refine (cm _).mono ?_); rintro e W2 ⟨rfl, hb⟩; (replace hN := hN.go hb); clear hb; (have k0 : W2.cell? ⟨w.heap.size, 0, none⟩ = some (.int .i64 0) := row_cellsX hN.h4 0); (have k1 : W2.cell? ⟨w.heap.size, 1, none⟩ = some (.int .i64 0) := row_cellsX hN.h4 1); (have k2 : W2.cell? ⟨w.heap.size, 2, none⟩ = some (.string ⟨#[]⟩) := row_cellsX hN.h4 2); (have k3 : W2.cell? ⟨w.heap.size, 3, none⟩ = some (.int .i64 0) := row_cellsX hN.h4 3); (have k4 : W2.cell? ⟨w.heap.size, 4, none⟩ = some (.int .u64 0) := row_cellsX hN.h4 4); (have k5 : W2.cell? ⟨w.heap.size + 1, 0, none⟩ = some (.int .i64 0) := row_cellsX hN.h6 0); (have k6 : W2.cell? ⟨w.heap.size + 1, 1, none⟩ = some (.int .i64 0) := row_cellsX hN.h6 1); (have z4 := row_thawX hN.h4); (have z6 := row_thawX hN.h6); (have HN2 := hid hN); clear hN))
        refine bodyPost_ret (nx_ret rfl _ _ w.heap.size (w.heap.size + 1) _ _ _ _ _ _ _ _ (0, 0) (0, 0) rfl rfl rfl (HN2.out.fin _ _ _ _ _ _ _).1 (HN2.out.fin _ _ _ _ _ _ _).2.1) rfl ?_
        exact ⟨rfl, (HN2.out.fin _ _ _ _ _ _ _).2.2⟩
      · have b2' : digB s[a] = false := by simpa using b2
        rw [b2'] at cd
        by_cases b3 : s[a].toNat = 34
        · have hc : s[a] = 34 := u8_is b3
          have hr := rest_quote (s.data.toList.drop (a + 1))
          rw [← hc, ← hd] at hr
          rw [hr]
          have cm := cq hlt b3
          obtain ⟨t, x, y, c, f, hf⟩ := nx_form (quotedP (s.data.toList.drop a)) a
          rw [hf] at cm ⊢
          simp only [tv] at cm ⊢
          have q3 : ((s[a].toNat : Int) == 34) = true := by simp; omega
          clear cn cq er hs ha hd hr hf ea b1 b1' b2 b2' hc b3
          go_enter Tryd.func13, Tryd.ntmps13
          go_upto_region 1 with fail
          generalize World.alloc (World.alloc w _) _ = W at *
          go_wp2_with (first | (go_at_call 16; (with_reducible refine (cs _).mono ?_); rintro e w' ⟨rfl, rfl⟩) | (go_at_call 18; (with_reducible refine (cd _).mono ?_); rintro e w' ⟨rfl, rfl⟩) | (go_at_call 20; (with_reducible refine (cm _).mono ?_); rintro e W2 ⟨rfl, hb⟩; (replace hN := hN.go hb); clear hb; (have k0 : W2.cell? ⟨w.heap.size, 0, none⟩ = some (.int .i64 0) := row_cellsX hN.h4 0); (have k1 : W2.cell? ⟨w.heap.size, 1, none⟩ = some (.int .i64 0) := row_cellsX hN.h4 1); (have k2 : W2.cell? ⟨w.heap.size, 2, none⟩ = some (.string ⟨#[]⟩) := row_cellsX hN.h4 2); (have k3 : W2.cell? ⟨w.heap.size, 3, none⟩ = some (.int .i64 0) := row_cellsX hN.h4 3); (have k4 : W2.cell? ⟨w.heap.size, 4, none⟩ = some (.int .u64 0) := row_cellsX hN.h4 4); (have k5 : W2.cell? ⟨w.heap.size + 1, 0, none⟩ = some (.int .i64 0) := row_cellsX hN.h6 0); (have k6 : W2.cell? ⟨w.heap.size + 1, 1, none⟩ = some (.int .i64 0) := row_cellsX hN.h6 1); (have z4 := row_thawX hN.h4); (have z6 := row_thawX hN.h6); (have HN2 := hid hN); clear hN))
          refine bodyPost_ret (nx_ret rfl _ _ w.heap.size (w.heap.size + 1) _ _ _ _ _ _ _ _ (0, 0) (0, 0) rfl rfl rfl (HN2.out.fin _ _ _ _ _ _ _).1 (HN2.out.fin _ _ _ _ _ _ _).2.1) rfl ?_
          exact ⟨rfl, (HN2.out.fin _ _ _ _ _ _ _).2.2⟩
        · have hr := rest_mark s[a] (s.data.toList.drop (a + 1)) b1' b2' (fun e => b3 (by rw [e]; rfl))
          rw [← hd, mark_form] at hr
          rw [hr]
          have q3 : ((s[a].toNat : Int) == 34) = false := by simp; omega
          obtain ⟨S1, hS1⟩ : ∃ S1, s.extract a (a + 1) = S1 := ⟨_, rfl⟩
          obtain ⟨S2, hS2⟩ : ∃ S2, s.extract a (a + 2) = S2 := ⟨_, rfl⟩
          have t1 : S1.data.toList = (s.data.toList.drop a).take 1 := by rw [← hS1]; exact ext_take s a 1
          have t2 : S2.data.toList = (s.data.toList.drop a).take 2 := by rw [← hS2]; exact ext_take s a 2
          have z1 : S1.data.toList.length = 1 := by rw [t1, List.length_take, List.length_drop, size_list]; omega
          have z2 : a + 2 ≤ s.size → S2.data.toList.length = 2 := fun h => by rw [t2, List.length_take, List.length_drop, size_list]; omega
          have y2 : ¬ a + 2 ≤ s.size → (s.data.toList.drop a).take 2 ∉ marks2 := by
            intro h hm
            have : ((s.data.toList.drop a).take 2).length = 2 := (show ∀ m ∈ marks2, m.length = 2 by decide) _ hm
            rw [List.length_take, List.length_drop, size_list] at this
            omega
          have cm1 := fun w => rMark_c S1 w
          have cm2 := fun w => rMark_c S2 w
          have cf := rFault_c 60 a
          simp only [tv, noTk] at cf
          have w1 : IntKind.i64.wrap ((a : Int) + 1) = ((a + 1 : Nat) : Int) := by rw [IntKind.wrap_i64]; omega
          have w2 : wrap64 ((a : Int) + 1) = ((a + 1 : Nat) : Int) := by unfold wrap64; omega
          have w3 : IntKind.i64.wrap ((a : Int) + 2) = ((a + 2 : Nat) : Int) := by rw [IntKind.wrap_i64]; omega
          have w4 : wrap64 ((a : Int) + 2) = ((a + 2 : Nat) : Int) := by unfold wrap64; omega
          have v1 : (a : Int) ≤ ((a + 1 : Nat) : Int) := by omega
          have v2 : (a : Int) ≤ ((a + 2 : Nat) : Int) := by omega
          have v3 : ((a + 1 : Nat) : Int) ≤ (s.size : Int) := by omega
          have two : (((a + 2 : Nat) : Int) ≤ (s.size : Int) ∧ (∀ w, Calls Tryd.prog 21 #[.string S2] w fun e w' => e = .returned (.bool true) ∧ w' = w) ∧ (s.data.toList.drop a).take 2 ∈ marks2) ∨ ((((a + 2 : Nat) : Int) ≤ (s.size : Int) ∧ (∀ w, Calls Tryd.prog 21 #[.string S2] w fun e w' => e = .returned (.bool false) ∧ w' = w)) ∨ ¬ ((a + 2 : Nat) : Int) ≤ (s.size : Int)) ∧ (s.data.toList.drop a).take 2 ∉ marks2 := by
            by_cases h : a + 2 ≤ s.size
            · have e := mem_two S2.data.toList (z2 h)
              by_cases g : S2.data.toList ∈ marks2
              · left
                refine ⟨by omega, fun w => ?_, by rw [← t2]; exact g⟩
                have := cm2 w
                rw [decide_eq_true (e.2 g)] at this
                exact this
              · right
                refine ⟨.inl ⟨by omega, fun w => ?_⟩, by rw [← t2]; exact g⟩
                have := cm2 w
                rw [decide_eq_false (fun k => g (e.1 k))] at this
                exact this
            · right
              exact ⟨.inr (by omega), y2 h⟩
          have one : ((∀ w, Calls Tryd.prog 21 #[.string S1] w fun e w' => e = .returned (.bool true) ∧ w' = w) ∧ (s.data.toList.drop a).take 1 ∈ marks1) ∨ ((∀ w, Calls Tryd.prog 21 #[.string S1] w fun e w' => e = .returned (.bool false) ∧ w' = w) ∧ (s.data.toList.drop a).take 1 ∉ marks1) := by
            have e := mem_one S1.data.toList z1
            by_cases g : S1.data.toList ∈ marks1
            · left
              refine ⟨fun w => ?_, by rw [← t1]; exact g⟩
              have := cm1 w
              rw [decide_eq_true (e.2 g)] at this
              exact this
            · right
              refine ⟨fun w => ?_, by rw [← t1]; exact g⟩
              have := cm1 w
              rw [decide_eq_false (fun k => g (e.1 k))] at this
              exact this
          have eb1 : bytesOf ((s.data.toList.drop a).take 1) = S1 := by rw [← t1, bytes_self]
          have eb2 : bytesOf ((s.data.toList.drop a).take 2) = S2 := by rw [← t2, bytes_self]
          rw [eb1, eb2]
          clear cn cq er hs ha hd hr ea b1 b1' b2 b2' b3 t1 t2 z1 z2 y2 cm1 cm2 eb1 eb2
          have v4 : a + 1 ≤ s.size := by omega
          obtain ⟨E1, hE1⟩ : ∃ E1, a + 1 = E1 := ⟨_, rfl⟩
          obtain ⟨E2, hE2⟩ : ∃ E2, a + 2 = E2 := ⟨_, rfl⟩
          rw [hE1] at hS1 w1 w2 v1 v3 v4
          rw [hE2] at hS2 w3 w4 v2 two
          have HE1 := hid hE1
          have HE2 := hid hE2
          clear hE1 hE2
          rcases two with ⟨u1, c2, u2⟩ | ⟨u1, u2⟩
          · have u4 : E2 ≤ s.size := by omega
            rw [if_pos u2, nx_ok _ 2 a (by decide), HE2.out]
            simp only [tv]
            clear u2 one
            go_enter Tryd.func13, Tryd.ntmps13
            go_upto_region 1 with fail
            generalize World.alloc (World.alloc w _) _ = W at *
            have HN2 := hid hN
            have k0 : W.cell? ⟨w.heap.size, 0, none⟩ = some (.int .i64 0) := row_cellsX hN.h4 0; have k1 : W.cell? ⟨w.heap.size, 1, none⟩ = some (.int .i64 0) := row_cellsX hN.h4 1; have k2 : W.cell? ⟨w.heap.size, 2, none⟩ = some (.string ⟨#[]⟩) := row_cellsX hN.h4 2; have k3 : W.cell? ⟨w.heap.size, 3, none⟩ = some (.int .i64 0) := row_cellsX hN.h4 3; have k4 : W.cell? ⟨w.heap.size, 4, none⟩ = some (.int .u64 0) := row_cellsX hN.h4 4; have k5 : W.cell? ⟨w.heap.size + 1, 0, none⟩ = some (.int .i64 0) := row_cellsX hN.h6 0; have k6 : W.cell? ⟨w.heap.size + 1, 1, none⟩ = some (.int .i64 0) := row_cellsX hN.h6 1; have z4 := row_thawX hN.h4; have z6 := row_thawX hN.h6
            clear hN
            go_wp2_with (first | (go_at_call 16; (with_reducible refine (cs _).mono ?_); rintro e w' ⟨rfl, rfl⟩) | (go_at_call 18; (with_reducible refine (cd _).mono ?_); rintro e w' ⟨rfl, rfl⟩))
            refine wp_loop_rounds 3 ?_
            rw [rounds_succ]
            go_wp2_with (go_at_call 21; (with_reducible refine (c2 _).mono ?_); rintro e w' ⟨rfl, rfl⟩)
            refine bodyPost_ret (nx_ret rfl _ _ w.heap.size (w.heap.size + 1) _ _ _ _ _ _ _ _ (0, 0) (0, 0) rfl rfl rfl (HN2.out.fin _ _ _ _ _ _ _).1 (HN2.out.fin _ _ _ _ _ _ _).2.1) rfl ?_
            exact ⟨rfl, (HN2.out.fin _ _ _ _ _ _ _).2.2⟩
          · rw [if_neg u2]
            clear u2
            rcases one with ⟨c1, u3⟩ | ⟨c1, u3⟩
            · rw [if_pos u3, nx_ok _ 1 a (by decide), HE1.out]
              simp only [tv]
              clear u3
              rcases u1 with ⟨u1, c2⟩ | u1
              · have u4 : E2 ≤ s.size := by omega
                go_enter Tryd.func13, Tryd.ntmps13
                go_upto_region 1 with fail
                generalize World.alloc (World.alloc w _) _ = W at *
                have HN2 := hid hN
                have k0 : W.cell? ⟨w.heap.size, 0, none⟩ = some (.int .i64 0) := row_cellsX hN.h4 0; have k1 : W.cell? ⟨w.heap.size, 1, none⟩ = some (.int .i64 0) := row_cellsX hN.h4 1; have k2 : W.cell? ⟨w.heap.size, 2, none⟩ = some (.string ⟨#[]⟩) := row_cellsX hN.h4 2; have k3 : W.cell? ⟨w.heap.size, 3, none⟩ = some (.int .i64 0) := row_cellsX hN.h4 3; have k4 : W.cell? ⟨w.heap.size, 4, none⟩ = some (.int .u64 0) := row_cellsX hN.h4 4; have k5 : W.cell? ⟨w.heap.size + 1, 0, none⟩ = some (.int .i64 0) := row_cellsX hN.h6 0; have k6 : W.cell? ⟨w.heap.size + 1, 1, none⟩ = some (.int .i64 0) := row_cellsX hN.h6 1; have z4 := row_thawX hN.h4; have z6 := row_thawX hN.h6
                clear hN
                go_wp2_with (first | (go_at_call 16; (with_reducible refine (cs _).mono ?_); rintro e w' ⟨rfl, rfl⟩) | (go_at_call 18; (with_reducible refine (cd _).mono ?_); rintro e w' ⟨rfl, rfl⟩))
                refine wp_loop_rounds 3 ?_
                rw [rounds_succ]
                go_wp2_with (go_at_call 21; (with_reducible refine (c2 _).mono ?_); rintro e w' ⟨rfl, rfl⟩)
                rw [rounds_succ]
                go_wp2_with (go_at_call 21; (with_reducible refine (c1 _).mono ?_); rintro e w' ⟨rfl, rfl⟩)
                refine bodyPost_ret (nx_ret rfl _ _ w.heap.size (w.heap.size + 1) _ _ _ _ _ _ _ _ (0, 0) (0, 0) rfl rfl rfl (HN2.out.fin _ _ _ _ _ _ _).1 (HN2.out.fin _ _ _ _ _ _ _).2.1) rfl ?_
                exact ⟨rfl, (HN2.out.fin _ _ _ _ _ _ _).2.2⟩
              · have u4 : ¬ E2 ≤ s.size := by omega
                go_enter Tryd.func13, Tryd.ntmps13
                go_upto_region 1 with fail
                generalize World.alloc (World.alloc w _) _ = W at *
                have HN2 := hid hN
                have k0 : W.cell? ⟨w.heap.size, 0, none⟩ = some (.int .i64 0) := row_cellsX hN.h4 0; have k1 : W.cell? ⟨w.heap.size, 1, none⟩ = some (.int .i64 0) := row_cellsX hN.h4 1; have k2 : W.cell? ⟨w.heap.size, 2, none⟩ = some (.string ⟨#[]⟩) := row_cellsX hN.h4 2; have k3 : W.cell? ⟨w.heap.size, 3, none⟩ = some (.int .i64 0) := row_cellsX hN.h4 3; have k4 : W.cell? ⟨w.heap.size, 4, none⟩ = some (.int .u64 0) := row_cellsX hN.h4 4; have k5 : W.cell? ⟨w.heap.size + 1, 0, none⟩ = some (.int .i64 0) := row_cellsX hN.h6 0; have k6 : W.cell? ⟨w.heap.size + 1, 1, none⟩ = some (.int .i64 0) := row_cellsX hN.h6 1; have z4 := row_thawX hN.h4; have z6 := row_thawX hN.h6
                clear hN
                go_wp2_with (first | (go_at_call 16; (with_reducible refine (cs _).mono ?_); rintro e w' ⟨rfl, rfl⟩) | (go_at_call 18; (with_reducible refine (cd _).mono ?_); rintro e w' ⟨rfl, rfl⟩))
                refine wp_loop_rounds 3 ?_
                rw [rounds_succ]
                go_wp2_with (go_at_call 21; (with_reducible refine (c2 _).mono ?_); rintro e w' ⟨rfl, rfl⟩)
                rw [rounds_succ]
                go_wp2_with (go_at_call 21; (with_reducible refine (c1 _).mono ?_); rintro e w' ⟨rfl, rfl⟩)
                refine bodyPost_ret (nx_ret rfl _ _ w.heap.size (w.heap.size + 1) _ _ _ _ _ _ _ _ (0, 0) (0, 0) rfl rfl rfl (HN2.out.fin _ _ _ _ _ _ _).1 (HN2.out.fin _ _ _ _ _ _ _).2.1) rfl ?_
                exact ⟨rfl, (HN2.out.fin _ _ _ _ _ _ _).2.2⟩
            · rw [if_neg u3]
              have en : nxR noPc a = .tuple #[tv noTk 0, .int .i64 (a : Nat), .agg #[.int .i64 60, .int .i64 (a : Nat)]] := if_pos rfl
              rw [en]
              simp only [tv, noTk]
              clear u3 en
              rcases u1 with ⟨u1, c2⟩ | u1
              · have u4 : E2 ≤ s.size := by omega
                go_enter Tryd.func13, Tryd.ntmps13
                go_upto_region 1 with fail
                generalize World.alloc (World.alloc w _) _ = W at *
                go_wp2_with (first | (go_at_call 16; (with_reducible refine (cs _).mono ?_); rintro e w' ⟨rfl, rfl⟩) | (go_at_call 18; (with_reducible refine (cd _).mono ?_); rintro e w' ⟨rfl, rfl⟩))
                refine wp_loop_rounds 3 ?_
                rw [rounds_succ]
                go_wp2_with (go_at_call 21; (with_reducible refine (c2 _).mono ?_); rintro e w' ⟨rfl, rfl⟩)
                rw [rounds_succ]
                go_wp2_with (go_at_call 21; (with_reducible refine (c1 _).mono ?_); rintro e w' ⟨rfl, rfl⟩)
                rw [rounds_succ]
                go_wp2_with (go_at_call 22; (with_reducible refine (cf _).mono ?_); rintro e W2 ⟨rfl, hb⟩; (replace hN := hN.go hb); clear hb; (have k0 : W2.cell? ⟨w.heap.size, 0, none⟩ = some (.int .i64 0) := row_cellsX hN.h4 0); (have k1 : W2.cell? ⟨w.heap.size, 1, none⟩ = some (.int .i64 0) := row_cellsX hN.h4 1); (have k2 : W2.cell? ⟨w.heap.size, 2, none⟩ = some (.string ⟨#[]⟩) := row_cellsX hN.h4 2); (have k3 : W2.cell? ⟨w.heap.size, 3, none⟩ = some (.int .i64 0) := row_cellsX hN.h4 3); (have k4 : W2.cell? ⟨w.heap.size, 4, none⟩ = some (.int .u64 0) := row_cellsX hN.h4 4); (have k5 : W2.cell? ⟨w.heap.size + 1, 0, none⟩ = some (.int .i64 0) := row_cellsX hN.h6 0); (have k6 : W2.cell? ⟨w.heap.size + 1, 1, none⟩ = some (.int .i64 0) := row_cellsX hN.h6 1); (have z4 := row_thawX hN.h4); (have z6 := row_thawX hN.h6); (have HN2 := hid hN); clear hN)
                refine bodyPost_ret (nx_ret rfl _ _ w.heap.size (w.heap.size + 1) _ _ _ _ _ _ _ _ (0, 0) (0, 0) rfl rfl rfl (HN2.out.fin _ _ _ _ _ _ _).1 (HN2.out.fin _ _ _ _ _ _ _).2.1) rfl ?_
                exact ⟨rfl, (HN2.out.fin _ _ _ _ _ _ _).2.2⟩
              · have u4 : ¬ E2 ≤ s.size := by omega
                go_enter Tryd.func13, Tryd.ntmps13
                go_upto_region 1 with fail
                generalize World.alloc (World.alloc w _) _ = W at *
                go_wp2_with (first | (go_at_call 16; (with_reducible refine (cs _).mono ?_); rintro e w' ⟨rfl, rfl⟩) | (go_at_call 18; (with_reducible refine (cd _).mono ?_); rintro e w' ⟨rfl, rfl⟩))
                refine wp_loop_rounds 3 ?_
                rw [rounds_succ]
                go_wp2_with (go_at_call 21; (with_reducible refine (c2 _).mono ?_); rintro e w' ⟨rfl, rfl⟩)
                rw [rounds_succ]
                go_wp2_with (go_at_call 21; (with_reducible refine (c1 _).mono ?_); rintro e w' ⟨rfl, rfl⟩)
                rw [rounds_succ]
                go_wp2_with (go_at_call 22; (with_reducible refine (cf _).mono ?_); rintro e W2 ⟨rfl, hb⟩; (replace hN := hN.go hb); clear hb; (have k0 : W2.cell? ⟨w.heap.size, 0, none⟩ = some (.int .i64 0) := row_cellsX hN.h4 0); (have k1 : W2.cell? ⟨w.heap.size, 1, none⟩ = some (.int .i64 0) := row_cellsX hN.h4 1); (have k2 : W2.cell? ⟨w.heap.size, 2, none⟩ = some (.string ⟨#[]⟩) := row_cellsX hN.h4 2); (have k3 : W2.cell? ⟨w.heap.size, 3, none⟩ = some (.int .i64 0) := row_cellsX hN.h4 3); (have k4 : W2.cell? ⟨w.heap.size, 4, none⟩ = some (.int .u64 0) := row_cellsX hN.h4 4); (have k5 : W2.cell? ⟨w.heap.size + 1, 0, none⟩ = some (.int .i64 0) := row_cellsX hN.h6 0); (have k6 : W2.cell? ⟨w.heap.size + 1, 1, none⟩ = some (.int .i64 0) := row_cellsX hN.h6 1); (have z4 := row_thawX hN.h4); (have z6 := row_thawX hN.h6); (have HN2 := hid hN); clear hN)
                refine bodyPost_ret (nx_ret rfl _ _ w.heap.size (w.heap.size + 1) _ _ _ _ _ _ _ _ (0, 0) (0, 0) rfl rfl rfl (HN2.out.fin _ _ _ _ _ _ _).1 (HN2.out.fin _ _ _ _ _ _ _).2.1) rfl ?_
                exact ⟨rfl, (HN2.out.fin _ _ _ _ _ _ _).2.2⟩
end Go.Proofs.YtfjkkndmngaaiaaDoor.W
/- casketref11: All. -/
namespace Go.Proofs.YtfjkkndmngaaiaaDoor.W
open Go.ChangeShapes Go.WideShapes Go.RowKit Go.Shelf
set_option linter.unusedVariables false
set_option linter.unusedSimpArgs false
def No7 (p : Pc) : Prop := p.t.kind ≠ 7
theorem no7_or {a b : Pc} (ha : No7 a) (hb : No7 b) : No7 (orPc a b) := by
  unfold orPc
  split
  · exact hb
  · exact ha
theorem no7_quote : ∀ (f : Nat) (r : List UInt8) (k : Nat) (acc : List UInt8), No7 (quoteGo f r k acc)
  | 0, r, k, acc => by unfold quoteGo; show (0 : Int) ≠ 7; decide
  | f + 1, [], k, acc => by rw [quote_end]; show (0 : Int) ≠ 7; decide
  | f + 1, c :: q, k, acc => by
    by_cases c1 : c = 34
    · rw [quote_stop (f + 1) k c q acc (by omega) c1]
      show (6 : Int) ≠ 7; decide
    · by_cases c2 : (speltP (c :: q)).2 = 0
      · rw [quote_bad (f + 1) k c q acc (by omega) c1 c2]
        show (0 : Int) ≠ 7; decide
      · rw [quote_on f k c q acc c1 c2]
        exact no7_quote f _ _ _
theorem rest_no7 (r : List UInt8) : No7 (restP r) := by
  have z : ∀ n c, No7 (badPc n c) := fun n c => show (0 : Int) ≠ 7 by decide
  have zn : No7 noPc := show (0 : Int) ≠ 7 by decide
  unfold restP
  refine no7_or ?_ (no7_or ?_ (no7_or ?_ (no7_or ?_ ?_)))
  · unfold nameP
    split
    · exact zn
    · split
      · exact z _ _
      · show (namedT _).kind ≠ 7
        unfold namedT
        split
        · show (5 : Int) ≠ 7; decide
        · split
          · show (5 : Int) ≠ 7; decide
          · split
            · show (2 : Int) ≠ 7; decide
            · show (1 : Int) ≠ 7; decide
  · unfold doubleP
    split
    · split
      · show (5 : Int) ≠ 7; decide
      · exact z _ _
    · exact zn
  · unfold wholeP
    split
    · exact zn
    · split
      · show (4 : Int) ≠ 7; decide
      · exact z _ _
  · unfold quotedP
    split
    · exact no7_quote _ _ _ _
    · exact zn
  · unfold markP
    split
    · show (3 : Int) ≠ 7; decide
    · exact zn
/-- what Next says of a place, and what is told from there on -/
def NextF (l : List UInt8) (k : Nat) (t : Tk) (x y c f : Int) : Prop :=
  (c ≠ 0 ∧ T (l.drop k) k = [⟨noTk, 0, c, f⟩]) ∨ (c = 0 ∧ f = 0 ∧ t.kind = 7 ∧ T (l.drop k) k = [⟨t, x, 0, 0⟩]) ∨ (c = 0 ∧ f = 0 ∧ t.kind ≠ 7 ∧ ∃ m : Nat, y = (m : Int) ∧ k < m ∧ m ≤ l.length ∧ T (l.drop k) k = ⟨t, x, 0, 0⟩ :: T (l.drop m) m)
theorem next_form (l : List UInt8) (k : Nat) (hk : k ≤ l.length) (h : NoGap (l.drop k)) : ∃ t x y c f, nextR (l.drop k) k = .tuple #[tv t x, .int .i64 y, .agg #[.int .i64 c, .int .i64 f]] ∧ NextF l k t x y c f := by
  unfold nextR
  by_cases e : l.drop k = []
  · rw [if_pos e]
    refine ⟨_, _, _, _, _, rfl, .inr (.inl ⟨rfl, rfl, rfl, ?_⟩)⟩
    rw [e, T_nil]
  · rw [if_neg e]
    have hp := piece_rest _ h
    have hst := T_step (r := l.drop k) (a := k) e
    rw [hp] at hst
    have hle := piece_le (l.drop k)
    rw [hp, List.length_drop] at hle
    unfold nxR
    by_cases c1 : (restP (l.drop k)).size = 0
    · rw [if_pos c1]
      rw [if_pos c1] at hst
      exact ⟨_, _, _, _, _, rfl, .inl ⟨by decide, hst⟩⟩
    · rw [if_neg c1]
      rw [if_neg c1] at hst
      by_cases c2 : (restP (l.drop k)).code = 0
      · rw [if_neg (fun h => h c2)]
        rw [if_neg (fun h => h c2)] at hst
        have k0 : (restP (l.drop k)).t.kind ≠ 0 := rest_tok _ c1 c2
        rw [if_pos k0] at hst
        refine ⟨_, _, _, _, _, rfl, .inr (.inr ⟨rfl, rfl, rest_no7 _, k + (restP (l.drop k)).size, rfl, by omega, by omega, ?_⟩)⟩
        rw [hst, List.drop_drop]
      · rw [if_pos c2]
        rw [if_pos c2] at hst
        exact ⟨_, _, _, _, _, rfl, .inl ⟨c2, hst⟩⟩
theorem all_ret2 {fn : Func} {p q : Tmp} (h : fn.results = #[.tmp p, .cell q 25]) (tmps : Array Value) (w : World) (b3 : Nat) (v c a : Value) (fr' : Nat × Nat) (hp : tmps.getD p undef = v) (hq : tmps.getD q undef = .pointer (some ⟨b3, 0, none⟩)) (hg3 : w.heap[b3]? = some (.cells #[c, a] 25 fr')) : (results fn tmps).run Tryd.prog w = .ok (.tuple #[v, .agg #[c, a]]) w := by
  obtain ⟨d, hu, hd⟩ := ftT
  have hl := run_loadVar_row (P := Tryd.prog) w b3 25 25 #[c, a] fr' d hg3 hu (by cases d <;> first | rfl | exact hd) (by rw [ftSz]; rfl)
  have hp' : tmps[p]?.getD undef = v := by simpa using hp
  have hq' : tmps[q]?.getD undef = .pointer (some ⟨b3, 0, none⟩) := by simpa using hq
  simp [results, h, hp', hq', asAddr, hl]
theorem find_last' (ts : List Yd) (z : Yd) (h : ∀ y ∈ ts, y.c = 0) (hz : z.c ≠ 0) : (ts ++ [z]).find? (fun y => y.c != 0) = some z := by
  rw [List.find?_append]
  have h1 : ts.find? (fun y => y.c != 0) = none := by
    rw [List.find?_eq_none]
    intro y hy
    simp [h y hy]
  rw [h1]
  have h2 : (z.c != 0) = true := by simp [hz]
  simp [h2]
theorem rows_one (ts : List Yd) (t : Tk) (x : Int) : rowsY (ts ++ [⟨t, x, 0, 0⟩]) = rowsY ts ++ [.int .i64 t.kind, .int .i64 x, .string t.text, .int .i64 t.int, .int .u64 t.bits] := by
  unfold rowsY
  rw [List.flatMap_append]
  rfl
/-- what stays along the rounds -/
structure RaI (w W : World) : Prop where
  bel : Below w.heap.size w W
  h3 : W.heap[w.heap.size]? = some (.cells #[.int .i64 0, .int .i64 0] 25 (0, 0))
theorem RaI.go {w W W' : World} (h : RaI w W) (hb : Below W.heap.size W W') : RaI w W' := ⟨h.bel.trans (hb.mono h.bel.size), row_keepX h.h3 hb⟩
set_option maxRecDepth 100000 in
set_option maxHeartbeats 1000000 in
theorem rAll_core (s : ByteArray) (hs : s.size ≤ 65536) (cb : ∀ (a : Nat), a ≤ s.size → ∀ w, Calls Tryd.prog 12 #[.string s, .int .i64 a] w fun e w' => w' = w ∧ ∃ k : Nat, e = .returned (.int .i64 k) ∧ a ≤ k ∧ k ≤ s.size ∧ T (s.data.toList.drop a) a = T (s.data.toList.drop k) k ∧ NoGap (s.data.toList.drop k))
    (cx : ∀ (k : Nat), k ≤ s.size → NoGap (s.data.toList.drop k) → ∀ w, Calls Tryd.prog 13 #[.string s, .int .i64 k] w fun e w' => (∃ t x y c f, e = .returned (.tuple #[.agg #[.int .i64 t.kind, .int .i64 x, .string t.text, .int .i64 t.int, .int .u64 t.bits], .int .i64 y, .agg #[.int .i64 c, .int .i64 f]]) ∧ NextF s.data.toList k t x y c f) ∧ Below w.heap.size w w') (w : World) :
    Calls Tryd.prog 7 #[.string s] w fun e w' => Below w.heap.size w w' ∧ AllR (T s.data.toList 0) w.heap.size e w' := by
  have z0 : ¬ (s.size : Int) > 65536 := by omega
  have hI : RaI w (w.alloc (.cells #[.int .i64 0, .int .i64 0] 25)) := ⟨(Below.refl _ w).alloc (Nat.le_refl _) _, World.alloc_heap_new w _⟩
  have HS := hid hs
  have CB := hid cb
  have CX := hid cx
  obtain ⟨i0, hi, hz0, hz1, hz2⟩ := info_parts infoTk
  clear hs cb cx
  go_enter Tryd.func7, Tryd.ntmps7
  go_upto_region 1 with fail
  generalize World.alloc w _ = W at *
  go_wp2_with fail
  clear z0
  go_loopw [4, 5] (fun v i wr => ∃ (k : Nat) (ts : List Yd), i = .int .i64 k ∧ k ≤ s.size ∧ T s.data.toList 0 = ts ++ T (s.data.toList.drop k) k ∧ (∀ y ∈ ts, y.c = 0) ∧ ts.length ≤ k ∧ wr.ownsRow w.heap.size 30 5 v ts.length (rowsY ts) ∧ RaI w wr) (fun _ i _ => s.size - (intOf i).toNat)
  case atStart => exact ⟨0, [], rfl, Nat.zero_le _, rfl, by simp, Nat.zero_le _, World.ownsRow_nil _ _ _ _, hI⟩
  case round =>
    obtain ⟨k, ts, rfl, hk, hT, hts, htl, hown, hJ⟩ := hrel
    obtain ⟨o9, c9, hv⟩ := slice_ofX hown
    subst hv
    have cbk := CB.out k hk
    have HT := hid (And.intro hT (And.intro hts htl))
    have HO := hid hown
    clear hT hts htl hown CB
    go_upto_region 7 with (first | (go_at_call 12; (with_reducible refine (cbk _).mono ?_); rintro e w' ⟨hw', k1, rfl, g1, g2, g3, g4⟩; (have hw2 := hw'.symm); subst hw2; clear hw'; (have cxk := CX.out k1 g2 g4); (have G := hid (And.intro g1 (And.intro g2 g3))); clear g1 g2 g3 g4 CX cbk) | (go_at_call 13; (with_reducible refine (cxk _).mono ?_); rintro e Wn ⟨⟨t, x, y, c, f, rfl, hF⟩, hb⟩; (have HB := hid hb); (have HF := hid hF); clear hb hF cxk))
    have hB2 : Below Wn.heap.size Wn ((Wn.alloc (.cells #[.int .i64 t.kind, .int .i64 x, .string t.text, .int .i64 t.int, .int .u64 t.bits] 30)).alloc (.cells #[.int .i64 c, .int .i64 f] 25)) := ((Below.refl _ Wn).alloc (Nat.le_refl _) _).alloc (by simp) _
    have f6 : Blk ((Wn.alloc (.cells #[.int .i64 t.kind, .int .i64 x, .string t.text, .int .i64 t.int, .int .u64 t.bits] 30)).alloc (.cells #[.int .i64 c, .int .i64 f] 25)) Wn.heap.size #[.int .i64 t.kind, .int .i64 x, .string t.text, .int .i64 t.int, .int .u64 t.bits] := (Blk.new Wn _ _).alloc _
    have f8 : Blk ((Wn.alloc (.cells #[.int .i64 t.kind, .int .i64 x, .string t.text, .int .i64 t.int, .int .u64 t.bits] 30)).alloc (.cells #[.int .i64 c, .int .i64 f] 25)) (Wn.heap.size + 1) #[.int .i64 c, .int .i64 f] := by
      have := Blk.new (Wn.alloc (.cells #[.int .i64 t.kind, .int .i64 x, .string t.text, .int .i64 t.int, .int .u64 t.bits] 30)) #[.int .i64 c, .int .i64 f] 25
      rwa [World.size_alloc] at this
    generalize World.alloc (World.alloc Wn _) _ = W2 at *
    have hBw : Below wr.heap.size wr W2 := HB.out.trans (hB2.mono HB.out.size)
    have hJ2 := hJ.go hBw
    have hO2 := own_keepX HO.out hBw
    have HB6 := hid HB.out.size
    have hlow : w.heap.size < Wn.heap.size := by have := (Array.getElem?_eq_some_iff.1 hJ.h3).1; have := HB.out.size; omega
    generalize Wn.heap.size = b6 at *
    have q0 : W2.cell? ⟨b6, 0, none⟩ = some (.int .i64 t.kind) := f6.cells 0
    have q1 : W2.cell? ⟨b6, 1, none⟩ = some (.int .i64 x) := f6.cells 1
    have q2 : W2.cell? ⟨b6, 2, none⟩ = some (.string t.text) := f6.cells 2
    have q3 : W2.cell? ⟨b6, 3, none⟩ = some (.int .i64 t.int) := f6.cells 3
    have q4 : W2.cell? ⟨b6, 4, none⟩ = some (.int .u64 t.bits) := f6.cells 4
    have q5 : W2.cell? ⟨b6 + 1, 0, none⟩ = some (.int .i64 c) := f8.cells 0
    have q6 : W2.cell? ⟨b6 + 1, 1, none⟩ = some (.int .i64 f) := f8.cells 1
    have k5 : W2.cell? ⟨w.heap.size, 0, none⟩ = some (.int .i64 0) := row_cellsX hJ2.h3 0
    have k6 : W2.cell? ⟨w.heap.size, 1, none⟩ = some (.int .i64 0) := row_cellsX hJ2.h3 1
    have z6 := row_thawX hJ2.h3
    have HJ := hid hJ2
    have HO2 := hid hO2
    have N6 := hid (show (Value.slice o9 ts.length c9).ownBlock ≠ some b6 from fun e => by have := (HO.out.lt b6 e).2; have := HB6.out; omega)
    have nb : ¬ b6 + 1 = w.heap.size := by omega
    have nb2 : ¬ b6 = w.heap.size := by omega
    clear hB2 f6 f8 hBw hJ hJ2 hO2 HO HB hlow hI
    rcases HF.out with ⟨hc, hT1⟩ | ⟨hc, hf, h7, hT1⟩ | ⟨hc, hf, h7, m, hy, hm1, hm2, hT1⟩
    · have HR := hid (show (T s.data.toList 0).find? (fun y => y.c != 0) = some ⟨noTk, 0, c, f⟩ by
        rw [HT.out.1, G.out.2.2, hT1]
        exact find_last' ts _ HT.out.2.1 hc)
      clear hT1 HF HT G HO2
      go_upto_region 8 with fail
      go_region
      go_wp2
      have g3 : ((W2.setCell ⟨w.heap.size, 0, none⟩ (.int .i64 c)).setCell ⟨w.heap.size, 1, none⟩ (.int .i64 f)).drew.heap[w.heap.size]? = some (.cells #[.int .i64 c, .int .i64 f] 25 (0, 0)) := heap_setX (c := [.int .i64 c, .int .i64 0]) (heap_setX (c := [.int .i64 0, .int .i64 0]) HJ.out.h3 0 (.int .i64 c)) 1 (.int .i64 f)
      refine bodyPost_ret (all_ret2 rfl _ _ w.heap.size _ _ _ (0, 0) rfl rfl g3) rfl ?_
      exact ⟨((HJ.out.bel.setCell (p := ⟨w.heap.size, 0, none⟩) (Nat.le_refl _) _).setCell (p := ⟨w.heap.size, 1, none⟩) (Nat.le_refl _) _).drew, .inl ⟨_, HR.out, rfl⟩⟩
    · subst hc hf
      have H7 := hid h7
      clear h7
      have HR := hid (And.intro (show T s.data.toList 0 = ts ++ [⟨t, x, 0, 0⟩] by rw [HT.out.1, G.out.2.2, hT1]) HT.out.2.1)
      have HTL := hid (show ts.length ≤ 65536 by have := HT.out.2.2; have := HS.out; omega)
      clear hT1 HF HT G
      go_wp2_with (first | (at_builtin; refine wpList_append_own _ rfl _ _ 22 rfl w.heap.size 30 i0 _ 5 48 rowT hi hz0 hz1 hz2 rfl (by decide) _ _ _ rfl (HO2.out.alloc _) ⟨_, 0, none⟩ 1 1 [.int .i64 t.kind, .int .i64 x, .string t.text, .int .i64 t.int, .int .u64 t.bits] rfl rfl ?c1 ?c2 ?c3 ?c4 ?c5 ?_))
      case c1 =>
        intro j u hj
        match j, hj with
        | 0, hj => simp at hj; subst hj; simp [Addr.add]
        | 1, hj => simp at hj; subst hj; simp [Addr.add]
        | 2, hj => simp at hj; subst hj; simp [Addr.add]
        | 3, hj => simp at hj; subst hj; simp [Addr.add]
        | 4, hj => simp at hj; subst hj; simp [Addr.add]
      case c2 => intro u hu; simp at hu; rcases hu with rfl | rfl | rfl | rfl | rfl <;> rfl
      case c3 => have := HTL.out; unfold maxLen; omega
      case c4 => have := HTL.out; omega
      case c5 => have := HJ.out.bel.size; simp; omega
      · intro v' w1 hown' hgrow _
        obtain ⟨o8, c8, hv8⟩ := slice_ofX hown'
        subst hv8
        have ub : Below w.heap.size w w1 := (HJ.out.bel.alloc (by have := HJ.out.bel.size; omega) _).grown hgrow (by have := HJ.out.bel.size; simp; omega) (fun g hg => (HO2.out.lt g hg).1)
        have upd : It.Upd (fun j => (Value.slice o9 ts.length c9).ownBlock = some j) W2 w1 := (It.Upd.of_below ((Below.refl _ W2).alloc (Nat.le_refl _) _)).trans' ((It.Upd.refl _ _).grown hgrow (fun j e => .inl e))
        have h3 : w1.heap[w.heap.size]? = some (.cells #[.int .i64 0, .int .i64 0] 25 (0, 0)) := (upd.block _ (Array.getElem?_eq_some_iff.1 HJ.out.h3).1 (fun e => own_neX HO2.out HJ.out.h3 (by decide) e)).trans HJ.out.h3
        have h6 : w1.cell? ⟨b6, 0, none⟩ = some (.int .i64 t.kind) := by
          have : w1.heap[b6]? = W2.heap[b6]? := upd.block _ (World.block_lt_of_cell? W2 _ q0) (fun e => N6.out e)
          rw [World.cell?_of_block this]; exact q0
        have k5 : w1.cell? ⟨w.heap.size, 0, none⟩ = some (.int .i64 0) := row_cellsX h3 0
        have k6 : w1.cell? ⟨w.heap.size, 1, none⟩ = some (.int .i64 0) := row_cellsX h3 1
        have z6 := row_thawX h3
        have HOW := hid hown'
        have HUB := hid ub
        have H3 := hid h3
        clear hown' hgrow ub upd h3 q0 q1 q2 q3 q4 q5 q6 HJ
        have h7 := H7.out
        go_wp2
        have g3 : ((w1.setCell ⟨w.heap.size, 0, none⟩ (.int .i64 0)).setCell ⟨w.heap.size, 1, none⟩ (.int .i64 0)).heap[w.heap.size]? = some (.cells #[.int .i64 0, .int .i64 0] 25 (0, 0)) := heap_setX (c := [.int .i64 0, .int .i64 0]) (heap_setX (c := [.int .i64 0, .int .i64 0]) H3.out 0 (.int .i64 0)) 1 (.int .i64 0)
        refine bodyPost_ret (all_ret2 rfl _ _ w.heap.size _ _ _ (0, 0) rfl rfl g3) rfl ?_
        refine ⟨(HUB.out.setCell (p := ⟨w.heap.size, 0, none⟩) (Nat.le_refl _) _).setCell (p := ⟨w.heap.size, 1, none⟩) (Nat.le_refl _) _, .inr ⟨?_, _, rfl, ?_⟩⟩
        · rw [HR.out.1]
          intro z hz
          rcases List.mem_append.1 hz with hz | hz
          · exact HR.out.2 z hz
          · simp only [List.mem_singleton] at hz; rw [hz]
        · rw [HR.out.1, rows_one, List.length_append]
          refine owns_onX HOW.out (fun j e => ?_)
          have hj : j ≠ w.heap.size := fun e2 => own_neX HOW.out H3.out (by decide) (e.trans (congrArg some e2))
          exact (Below.heap_setCell _ _ _ _ (by show j ≠ w.heap.size; exact hj)).trans (Below.heap_setCell _ _ _ _ (by show j ≠ w.heap.size; exact hj))
    · subst hc hf hy
      have HR := hid (And.intro (show T s.data.toList 0 = (ts ++ [⟨t, x, 0, 0⟩]) ++ T (s.data.toList.drop m) m by rw [HT.out.1, G.out.2.2, hT1, List.append_assoc]; rfl) HT.out.2.1)
      have HTL := hid (show ts.length ≤ 65536 by have := HT.out.2.2; have := HS.out; omega)
      have HM := hid (show k < m ∧ m ≤ s.size ∧ ts.length + 1 ≤ m by have := HT.out.2.2; have := G.out.1; rw [size_list] at hm2; exact ⟨by omega, hm2, by omega⟩)
      clear hT1 HF HT G hm1 hm2
      go_wp2_with (first | (at_builtin; refine wpList_append_own _ rfl _ _ 22 rfl w.heap.size 30 i0 _ 5 48 rowT hi hz0 hz1 hz2 rfl (by decide) _ _ _ rfl (HO2.out.alloc _) ⟨_, 0, none⟩ 1 1 [.int .i64 t.kind, .int .i64 x, .string t.text, .int .i64 t.int, .int .u64 t.bits] rfl rfl ?c1 ?c2 ?c3 ?c4 ?c5 ?_))
      case c1 =>
        intro j u hj
        match j, hj with
        | 0, hj => simp at hj; subst hj; simp [Addr.add]
        | 1, hj => simp at hj; subst hj; simp [Addr.add]
        | 2, hj => simp at hj; subst hj; simp [Addr.add]
        | 3, hj => simp at hj; subst hj; simp [Addr.add]
        | 4, hj => simp at hj; subst hj; simp [Addr.add]
      case c2 => intro u hu; simp at hu; rcases hu with rfl | rfl | rfl | rfl | rfl <;> rfl
      case c3 => have := HTL.out; unfold maxLen; omega
      case c4 => have := HTL.out; omega
      case c5 => have := HJ.out.bel.size; simp; omega
      · intro v' w1 hown' hgrow _
        obtain ⟨o8, c8, hv8⟩ := slice_ofX hown'
        subst hv8
        have ub : Below w.heap.size w w1 := (HJ.out.bel.alloc (by have := HJ.out.bel.size; omega) _).grown hgrow (by have := HJ.out.bel.size; simp; omega) (fun g hg => (HO2.out.lt g hg).1)
        have upd : It.Upd (fun j => (Value.slice o9 ts.length c9).ownBlock = some j) W2 w1 := (It.Upd.of_below ((Below.refl _ W2).alloc (Nat.le_refl _) _)).trans' ((It.Upd.refl _ _).grown hgrow (fun j e => .inl e))
        have h3 : w1.heap[w.heap.size]? = some (.cells #[.int .i64 0, .int .i64 0] 25 (0, 0)) := (upd.block _ (Array.getElem?_eq_some_iff.1 HJ.out.h3).1 (fun e => own_neX HO2.out HJ.out.h3 (by decide) e)).trans HJ.out.h3
        have h6 : w1.cell? ⟨b6, 0, none⟩ = some (.int .i64 t.kind) := by
          have : w1.heap[b6]? = W2.heap[b6]? := upd.block _ (World.block_lt_of_cell? W2 _ q0) (fun e => N6.out e)
          rw [World.cell?_of_block this]; exact q0
        have k5 : w1.cell? ⟨w.heap.size, 0, none⟩ = some (.int .i64 0) := row_cellsX h3 0
        have k6 : w1.cell? ⟨w.heap.size, 1, none⟩ = some (.int .i64 0) := row_cellsX h3 1
        have z6 := row_thawX h3
        have HOW := hid hown'
        have HUB := hid ub
        have H3 := hid h3
        clear hown' hgrow ub upd h3 q0 q1 q2 q3 q4 q5 q6 HJ
        go_wp2
        go_roundw
        case rel =>
          refine ⟨m, ts ++ [⟨t, x, 0, 0⟩], rfl, HM.out.2.1, HR.out.1, ?_, by rw [List.length_append]; exact HM.out.2.2, ?_, ⟨HUB.out, H3.out⟩⟩
          · intro z hz
            rcases List.mem_append.1 hz with hz | hz
            · exact HR.out.2 z hz
            · simp only [List.mem_singleton] at hz; rw [hz]
          · rw [rows_one, List.length_append]; exact HOW.out
        case measure => have := HM.out; simp [intOf]; omega
end Go.Proofs.YtfjkkndmngaaiaaDoor.W
/- LexTwo: the walk where a text has a fault. -/
namespace Go.Proofs.YtfjkkndmngaaiaaDoor.W
open Go.ChangeShapes Go.WideShapes Go.RowKit Go.Shelf
set_option linter.unusedVariables false
/-- whatever All answers -/
theorem all_any (s : ByteArray) (hs : s.size ≤ 1000000) (w : World) (ht : Tabs w) (hm : MarksIn w) :
    Calls Tryd.prog 8 #[.string s] w fun e w' => Below w.heap.size w w' ∧ ∃ o n cap c f, e = .returned (.tuple #[.slice o n cap, .agg #[.int .i64 c, .int .i64 f]]) := by
  refine (all_c s hs w ht hm).mono ?_
  rintro e w' ⟨hB, h⟩
  refine ⟨hB, ?_⟩
  rcases h with ⟨y, h1, h2⟩ | ⟨h0, v, he, hown⟩
  · exact ⟨none, 0, 0, _, _, h2⟩
  · obtain ⟨o, cap, rfl⟩ := slice_ofX hown
    exact ⟨o, _, cap, 0, 0, he⟩
theorem lexTwo_long (A B : ByteArray) (h : 5000 < A.size ∨ 5000 < B.size) (w : World) : Calls Tryd.prog 6 #[.string A, .string B] w fun e w' => e = .returned (.bool true) ∧ Below w.heap.size w w' := by
  by_cases c : 5000 < A.size
  · have c' : (A.size : Int) > 5000 := by omega
    clear h
    go_enter Tryd.func6, Tryd.ntmps6
    go_wp2
    go_ret
    exact ⟨rfl, Below.refl _ _⟩
  · have c' : ¬ (A.size : Int) > 5000 := by omega
    have d' : (B.size : Int) > 5000 := by omega
    clear h
    go_enter Tryd.func6, Tryd.ntmps6
    go_wp2
    go_ret
    exact ⟨rfl, Below.refl _ _⟩
set_option maxRecDepth 100000 in
set_option maxHeartbeats 1000000 in
theorem lexTwo_first (A B : ByteArray) (hA : A.size ≤ 5000) (hB : B.size ≤ 5000) (c f : Int) (hc : c ≠ 0) (w : World) (ht : Tabs w) (hm : MarksIn w)
    (c1 : ∀ w, Tabs w → MarksIn w → Calls Tryd.prog 8 #[.string A] w fun e w' => Below w.heap.size w w' ∧ e = .returned (.tuple #[.slice none 0 0, .agg #[.int .i64 c, .int .i64 f]]))
    (c2 : ∀ w, Tabs w → MarksIn w → Calls Tryd.prog 8 #[.string B] w fun e w' => Below w.heap.size w w' ∧ ∃ o n cap c f, e = .returned (.tuple #[.slice o n cap, .agg #[.int .i64 c, .int .i64 f]]))
    (c3 : ∀ w, Tabs w → MarksIn w → Calls Tryd.prog 8 #[.string (A ++ ⟨#[10]⟩ ++ B)] w fun e w' => Below w.heap.size w w' ∧ ∃ o n cap c f, e = .returned (.tuple #[.slice o n cap, .agg #[.int .i64 c, .int .i64 f]])) :
    Calls Tryd.prog 6 #[.string A, .string B] w fun e w' => e = .returned (.bool true) ∧ Below w.heap.size w w' := by
  have c' : ¬ (A.size : Int) > 5000 := by omega
  have d' : ¬ (B.size : Int) > 5000 := by omega
  have hS := Sx.refl ht hm
  clear ht hm hA hB
  go_enter Tryd.func6, Tryd.ntmps6
  go_upto_region 4 with (go_at_call 8; (with_reducible refine (c1 _ hS.tabs hS.marks).mono ?_); rintro e wn ⟨hb, rfl⟩; (replace hS := hS.go hb); clear hb)
  have f1 := Blk.new wn #[Value.int .i64 c, Value.int .i64 f] 25
  replace hS := hS.alloc (Obj.cells #[Value.int .i64 c, Value.int .i64 f] 25)
  generalize World.alloc wn _ = W1 at *
  generalize wn.heap.size = b1 at *
  go_upto_region 5 with (go_at_call 8; (with_reducible refine (c2 _ hS.tabs hS.marks).mono ?_); rintro e wn ⟨hb, o2, n2, k2, e2, g2, rfl⟩; (replace hS := hS.go hb); (replace f1 := f1.go hb); clear hb)
  replace f1 := f1.alloc (Obj.cells #[Value.int .i64 e2, Value.int .i64 g2] 25)
  replace hS := hS.alloc (Obj.cells #[Value.int .i64 e2, Value.int .i64 g2] 25)
  generalize World.alloc wn _ = W2 at *
  generalize wn.heap.size = b2 at *
  go_upto_region 6 with (go_at_call 8; (with_reducible refine (c3 _ hS.tabs hS.marks).mono ?_); rintro e wn ⟨hb, o3, n3, k3, e3, g3, rfl⟩; (replace hS := hS.go hb); (replace f1 := f1.go hb); clear hb)
  replace f1 := f1.alloc (Obj.cells #[Value.int .i64 e3, Value.int .i64 g3] 25)
  replace hS := hS.alloc (Obj.cells #[Value.int .i64 e3, Value.int .i64 g3] 25)
  generalize World.alloc wn _ = W3 at *
  generalize wn.heap.size = b3 at *
  have q0 := f1.cells 0
  simp at q0
  clear c1 c2 c3
  go_wp2_with (go_at_call 11; refine (awake11_c _ hS.tabs hS.marks).mono ?_; rintro e wn ⟨rfl, hb⟩; (replace hS := hS.go hb); clear hb)
  go_ret
  exact ⟨rfl, hS.bel⟩
set_option maxRecDepth 100000 in
set_option maxHeartbeats 1000000 in
theorem lexTwo_second (A B : ByteArray) (hA : A.size ≤ 5000) (hB : B.size ≤ 5000) (c f : Int) (hc : c ≠ 0) (hf0 : 0 ≤ f) (hf1 : f ≤ 5000) (w : World) (ht : Tabs w) (hm : MarksIn w)
    (c1 : ∀ w, Tabs w → MarksIn w → Calls Tryd.prog 8 #[.string A] w fun e w' => Below w.heap.size w w' ∧ ∃ o n cap, e = .returned (.tuple #[.slice o n cap, .agg #[.int .i64 0, .int .i64 0]]))
    (c2 : ∀ w, Tabs w → MarksIn w → Calls Tryd.prog 8 #[.string B] w fun e w' => Below w.heap.size w w' ∧ e = .returned (.tuple #[.slice none 0 0, .agg #[.int .i64 c, .int .i64 f]]))
    (c3 : ∀ w, Tabs w → MarksIn w → Calls Tryd.prog 8 #[.string (A ++ ⟨#[10]⟩ ++ B)] w fun e w' => Below w.heap.size w w' ∧ e = .returned (.tuple #[.slice none 0 0, .agg #[.int .i64 c, .int .i64 (f + (A.size : Nat) + 1)]])) :
    Calls Tryd.prog 6 #[.string A, .string B] w fun e w' => e = .returned (.bool true) ∧ Below w.heap.size w w' := by
  have c' : ¬ (A.size : Int) > 5000 := by omega
  have d' : ¬ (B.size : Int) > 5000 := by omega
  have w1 : IntKind.i64.wrap (f + (A.size : Int)) = f + (A.size : Int) := by rw [IntKind.wrap_i64]; omega
  have w2 : IntKind.i64.wrap (f + (A.size : Int) + 1) = f + (A.size : Int) + 1 := by rw [IntKind.wrap_i64]; omega
  have hS := Sx.refl ht hm
  clear ht hm hA hB hf0 hf1
  go_enter Tryd.func6, Tryd.ntmps6
  go_upto_region 4 with (go_at_call 8; (with_reducible refine (c1 _ hS.tabs hS.marks).mono ?_); rintro e wn ⟨hb, o1, n1, k1, rfl⟩; (replace hS := hS.go hb); clear hb)
  have f1 := Blk.new wn #[Value.int .i64 0, Value.int .i64 0] 25
  replace hS := hS.alloc (Obj.cells #[Value.int .i64 0, Value.int .i64 0] 25)
  generalize World.alloc wn _ = W1 at *
  generalize wn.heap.size = b1 at *
  go_upto_region 5 with (go_at_call 8; (with_reducible refine (c2 _ hS.tabs hS.marks).mono ?_); rintro e wn ⟨hb, rfl⟩; (replace hS := hS.go hb); (replace f1 := f1.go hb); clear hb)
  have f2 := Blk.new wn #[Value.int .i64 c, Value.int .i64 f] 25
  replace f1 := f1.alloc (Obj.cells #[Value.int .i64 c, Value.int .i64 f] 25)
  replace hS := hS.alloc (Obj.cells #[Value.int .i64 c, Value.int .i64 f] 25)
  generalize World.alloc wn _ = W2 at *
  generalize wn.heap.size = b2 at *
  go_upto_region 6 with (go_at_call 8; (with_reducible refine (c3 _ hS.tabs hS.marks).mono ?_); rintro e wn ⟨hb, rfl⟩; (replace hS := hS.go hb); (replace f1 := f1.go hb); (replace f2 := f2.go hb); clear hb)
  have f3 := Blk.new wn #[Value.int .i64 c, Value.int .i64 (f + (A.size : Nat) + 1)] 25
  replace f1 := f1.alloc (Obj.cells #[Value.int .i64 c, Value.int .i64 (f + (A.size : Nat) + 1)] 25)
  replace f2 := f2.alloc (Obj.cells #[Value.int .i64 c, Value.int .i64 (f + (A.size : Nat) + 1)] 25)
  replace hS := hS.alloc (Obj.cells #[Value.int .i64 c, Value.int .i64 (f + (A.size : Nat) + 1)] 25)
  generalize World.alloc wn _ = W3 at *
  generalize wn.heap.size = b3 at *
  have q0 := f1.cells 0
  have q1 := f2.cells 0
  have q2 := f2.cells 1
  have q3 := f3.cells 0
  have q4 := f3.cells 1
  simp at q0 q1 q2 q3 q4
  clear c1 c2 c3
  go_wp2_with (go_at_call 11; refine (awake11_c _ hS.tabs hS.marks).mono ?_; rintro e wn ⟨rfl, hb⟩; (replace hS := hS.go hb); clear hb)
  go_ret
  exact ⟨rfl, hS.bel⟩
end Go.Proofs.YtfjkkndmngaaiaaDoor.W
/- LexLong: what All and casketref11's All say of blanks and a byte. -/
namespace Go.Proofs.YtfjkkndmngaaiaaDoor.W
open Go.ChangeShapes Go.WideShapes Go.RowKit Go.Shelf
set_option linter.unusedVariables false
set_option linter.unusedSimpArgs false
/-- n - 1 blanks and a byte -/
def longL (n : Nat) (c : UInt8) : List UInt8 := List.replicate (n - 1) 32 ++ [c]
theorem longL_len (n : Nat) (c : UInt8) (h : 0 < n) : (longL n c).length = n := by unfold longL; simp; omega
theorem longL_at (n : Nat) (c : UInt8) (k : Nat) (hk : k < n - 1) : (longL n c)[k]? = some 32 := by
  unfold longL
  rw [List.getElem?_append_left (by simpa using hk)]
  simp [hk]
theorem longL_last (n : Nat) (c : UInt8) : (longL n c).drop (n - 1) = [c] := by
  unfold longL
  have := List.drop_left (l₁ := List.replicate (n - 1) (32 : UInt8)) (l₂ := [c])
  rwa [List.length_replicate] at this
/-- no gap begins at a blank -/
theorem long_place (n : Nat) (c : UInt8) (hn : 0 < n) (k : Nat) (hk : k < n) (h : NoGap ((longL n c).drop k)) : k = n - 1 := by
  by_cases e : k < n - 1
  · exfalso
    have h1 := longL_at n c k e
    have h2 : ((longL n c).drop k).head? = some 32 := by rw [List.head?_drop]; exact h1
    have := (h 32 h2).2
    revert this
    decide
  · omega
theorem whole7 : wholeP [55] = okPc ⟨4, ⟨#[]⟩, 7, 0⟩ 1 := by kernel_rfl
theorem double7 : doubleP [55] = noPc := by kernel_rfl
theorem quote34 : quotedP [34] = badPc 1 61 := by kernel_rfl
theorem readI7 : readI [55] = (7, 0) := by kernel_rfl
theorem rLong_c (s : ByteArray) (n : Nat) (c : UInt8) (hn : 65000 ≤ n) (hn2 : n ≤ 65536) (hs : s.data.toList = longL n c) (hc : digB c = true → c = 55) (w : World) : Calls Tryd.prog 7 #[.string s] w fun e w' => Below w.heap.size w w' ∧ AllR (T s.data.toList 0) w.heap.size e w' := by
  have hsz : s.size = n := by rw [← size_list, hs, longL_len n c (by omega)]
  refine rAll_core s (by omega) (fun a ha w => rBlank_c s (by omega) a ha w) (fun k hk hg w => ?_) w
  have hlast : ∀ (h : n - 1 < s.size), s[n - 1] = c := by
    intro h
    have e := get_at s (n - 1) h
    have e2 : s.data.toList[n - 1]? = some c := by
      have := longL_last n c
      rw [hs, ← List.head?_drop, this]; rfl
    rw [e2] at e
    exact (Option.some.inj e).symm
  have key : ∀ h : k < s.size, k = n - 1 ∧ s.data.toList.drop k = [c] ∧ s[k] = c := by
    intro h
    have e : k = n - 1 := long_place n c (by omega) k (by omega) (by rw [← hs]; exact hg)
    subst e
    exact ⟨rfl, by rw [hs]; exact longL_last n c, hlast h⟩
  have base := rNext_c s (by omega) k hk (fun h hd w => ?_) (fun h hq w => ?_) w
  · refine base.mono ?_
    rintro e w' ⟨he, hb⟩
    obtain ⟨t, x, y, c', f, h1, h2⟩ := next_form s.data.toList k (by rw [size_list]; exact hk) hg
    exact ⟨⟨t, x, y, c', f, by rw [he, h1]; rfl, h2⟩, hb⟩
  · obtain ⟨e1, e2, e3⟩ := key h
    rw [e3] at hd
    have e4 := hc hd
    rw [e2, e4, double7, or_no, whole7, nx_ok _ 1 k (by decide)]
    obtain ⟨S, hS⟩ : ∃ S, s.extract k (k + 1) = S := ⟨_, rfl⟩
    have hSl : S.data.toList = [55] := by rw [← hS, ext_take, e2, e4]; rfl
    have cp := fun w => refParseInt_c S (by rw [← size_list, hSl]; unfold maxLen; decide) w
    rw [hSl, readI7] at cp
    refine rWhole_core s S (by omega) k 1 (k + 1) h rfl (by decide) (by omega) ?_ hS 7 0 cp (.inl ?_) _ (.inr ⟨rfl, rfl⟩) w
    · rw [e2, e4]; rfl
    · rw [e3, e4]; rfl
  · obtain ⟨e1, e2, e3⟩ := key h
    rw [e3] at hq
    have e4 : c = 34 := u8_is hq
    rw [e2, e4, quote34, nx_bad 1 61 k (by decide) (by decide)]
    exact rText_end s (by omega) k (by omega) w
theorem made_one (v : Value) (n : Nat) : (madeCells #[v] n).toList = List.replicate n v := by
  apply List.ext_getElem?
  intro i
  by_cases hi : i < n
  · rw [List.getElem?_replicate, if_pos hi]
    simp [madeCells, hi, Nat.mod_one]
  · rw [List.getElem?_replicate, if_neg hi]
    simp [madeCells, hi]
/-- i blanks, and noughts behind them -/
def rowL (n i : Nat) : List Value := List.replicate i (.int .u8 32) ++ List.replicate (n - i) (.int .u8 0)
theorem rowL_len (n i : Nat) (h : i ≤ n) : (rowL n i).length = n := by unfold rowL; simp; omega
theorem rowL_set (n i : Nat) (h : i < n) : (rowL n i).set i (.int .u8 32) = rowL n (i + 1) := by
  unfold rowL
  obtain ⟨m, hm⟩ : ∃ m, n - i = m + 1 := ⟨n - i - 1, by omega⟩
  have hm2 : n - (i + 1) = m := by omega
  rw [hm, hm2, List.set_append_right _ _ (by simp), List.length_replicate, Nat.sub_self, List.replicate_succ, List.set_cons_zero, List.replicate_succ', List.append_assoc]
  rfl
theorem rowL_last (n : Nat) (c : UInt8) (h : 0 < n) : (rowL n n).set (n - 1) (.int .u8 (c.toNat : Int)) = bytesV (longL n c) := by
  unfold rowL longL bytesV
  obtain ⟨m, rfl⟩ : ∃ m, n = m + 1 := ⟨n - 1, by omega⟩
  rw [Nat.sub_self, List.replicate_zero, List.append_nil, List.replicate_succ', Nat.add_sub_cancel, List.set_append_right _ _ (by simp), List.length_replicate, Nat.sub_self, List.map_append, List.map_replicate]
  rfl
theorem make_bytes (w : World) (n : Nat) (hn : n ≤ 1048576) : ∃ w', (Instr.makeSlice 36 (.int .i64 (n : Int)) (.int .i64 (n : Int))).run Tryd.prog w = .ok (.slice (some ⟨w.heap.size, 0, none⟩) n n) w' ∧ w'.heap[w.heap.size]? = some (.cells (rowL n 0).toArray 5 (0, 0)) ∧ w.grownBy w' none := by
  obtain ⟨i0, hi, hz0, hz1, hz2⟩ := info_parts infoB
  obtain ⟨w', h1, h2, h3⟩ := run_makeSlice_full (P := Tryd.prog) w w.heap.size 36 5 i0 (.int .u8 0) 1 Tryd.underlying36 hi hz0 hz1 .i64 .i64 n (by omega) (by rw [hz2]; omega) (by simp [maxLen]; omega) (Nat.le_refl _)
  refine ⟨w', h1, ?_, h3⟩
  have e : (madeCells (Value.int .u8 0).cells (n * 1)).toList = rowL n 0 := by
    rw [Nat.mul_one]
    show (madeCells #[Value.int .u8 0] n).toList = _
    rw [made_one]
    rfl
  rw [e] at h2
  rcases h2.2 with ⟨h, _⟩ | ⟨g, cap, cur, hv, _, hg, _, _, hc, ht⟩
  · cases h
  · cases hv
    rw [hg]
    congr 2
    apply Array.ext'
    rw [List.take_of_length_le (by simp; omega)] at ht
    simpa using ht
theorem grown_below {w w' : World} (h : w.grownBy w' none) : Below w.heap.size w w' := ⟨h.os, h.tape, h.output, h.size, fun k hk => h.block k hk (by simp)⟩
theorem long_own {w : World} {b n : Nat} {c : UInt8} (h : w.heap[b]? = some (.cells (bytesV (longL n c)).toArray 5 (0, 0))) (hn : 0 < n) (hn2 : n ≤ 1000000) : w.ownsRow 0 5 1 (.slice (some ⟨b, 0, none⟩) n n) n (bytesV (longL n c)) := by
  have hl : (bytesV (longL n c)).length = n := by unfold bytesV; rw [List.length_map, longL_len n c hn]
  refine ⟨by rw [hl]; omega, .inr ⟨b, n, _, rfl, Nat.zero_le _, h, Nat.le_refl _, by unfold maxLen; omega, by simp [hl], ?_⟩⟩
  rw [List.toList_toArray, Nat.mul_one, List.take_of_length_le (by omega)]
end Go.Proofs.YtfjkkndmngaaiaaDoor.W
/- LexTwo: the walk where both texts are well. -/
namespace Go.Proofs.YtfjkkndmngaaiaaDoor.W
open Go.ChangeShapes Go.WideShapes Go.RowKit Go.Shelf
set_option linter.unusedVariables false
theorem rows_at (L : List Yd) (k j : Nat) (hk : k < L.length) (hj : j < 5) : (rowsY L)[k * 5 + j]? = (cellsA L[k])[j]? := by
  induction L generalizing k with
  | nil => simp at hk
  | cons y L ih =>
    unfold rowsY at ih ⊢
    rw [List.flatMap_cons]
    cases k with
    | zero =>
      rw [List.getElem?_append_left (by simp [cellsA]; omega)]
      simp
    | succ k =>
      have h5 : (cellsA y).toList.length = 5 := rfl
      rw [List.getElem?_append_right (by rw [h5]; omega), h5]
      have := ih k (by simpa using hk)
      have e : (k + 1) * 5 + j - 5 = k * 5 + j := by omega
      rw [e, this]
      rfl
theorem TokRow.at {W : World} {B g cap : Nat} {L : List Yd} (h : TokRow W B g cap L) (k : Nat) (hk : k < L.length) : W.cell? ⟨g, k * 5, none⟩ = some (.int .i64 L[k].t.kind) ∧ W.cell? ⟨g, k * 5 + 1, none⟩ = some (.int .i64 L[k].a) ∧ W.cell? ⟨g, k * 5 + 2, none⟩ = some (.string L[k].t.text) ∧ W.cell? ⟨g, k * 5 + 3, none⟩ = some (.int .i64 L[k].t.int) ∧ W.cell? ⟨g, k * 5 + 4, none⟩ = some (.int .u64 L[k].t.bits) := by
  refine ⟨?_, ?_, ?_, ?_, ?_⟩
  · have := h.2.2.2 (k * 5) (by omega); rw [this]; have := rows_at L k 0 hk (by omega); exact this
  · have := h.2.2.2 (k * 5 + 1) (by omega); rw [this]; exact rows_at L k 1 hk (by omega)
  · have := h.2.2.2 (k * 5 + 2) (by omega); rw [this]; exact rows_at L k 2 hk (by omega)
  · have := h.2.2.2 (k * 5 + 3) (by omega); rw [this]; exact rows_at L k 3 hk (by omega)
  · have := h.2.2.2 (k * 5 + 4) (by omega); rw [this]; exact rows_at L k 4 hk (by omega)
theorem lt_ar (t n1 n2 n3 : Nat) (h1 : n1 = t + 1) (h3 : n3 = t + n2) (hl : n1 ≤ 6000) (hl2 : n2 ≤ 6000) : IntKind.i64.wrap ((n1 : Int) + (n2 : Int)) = (n1 : Int) + (n2 : Int) ∧ IntKind.i64.wrap ((n1 : Int) + (n2 : Int) - 1) = (n3 : Int) ∧ wrap64 ((n1 : Int) + (n2 : Int)) = (n1 : Int) + (n2 : Int) ∧ wrap64 ((n1 : Int) + (n2 : Int) - 1) = (n3 : Int) := by
  refine ⟨?_, ?_, ?_, ?_⟩
  · rw [IntKind.wrap_i64]; omega
  · rw [IntKind.wrap_i64]; omega
  · unfold wrap64; omega
  · unfold wrap64; omega
theorem lt_ar2 (t n1 j m s : Nat) (a : Int) (h1 : n1 = t + 1) (hm : t + j = m) (hs : s ≤ 5000) (hl : n1 ≤ 6000) (hj : j ≤ 6000) (a0 : 0 ≤ a) (a1 : a ≤ 6000) : IntKind.i64.wrap ((j : Int) + 1) = ((j + 1 : Nat) : Int) ∧ wrap64 ((j : Int) + 1) = ((j + 1 : Nat) : Int) ∧ IntKind.i64.wrap ((n1 : Int) - 1) = (t : Int) ∧ wrap64 ((n1 : Int) - 1) = (t : Int) ∧ IntKind.i64.wrap ((t : Int) + (j : Int)) = (m : Int) ∧ wrap64 ((t : Int) + (j : Int)) = (m : Int) ∧ IntKind.i64.wrap ((s : Int) + 1) = (s : Int) + 1 ∧ wrap64 ((s : Int) + 1) = (s : Int) + 1 ∧ IntKind.i64.wrap (a + ((s : Int) + 1)) = a + ((s : Int) + 1) ∧ wrap64 (a + ((s : Int) + 1)) = a + ((s : Int) + 1) := by
  refine ⟨?_, ?_, ?_, ?_, ?_, ?_, ?_, ?_, ?_, ?_⟩ <;> first | (rw [IntKind.wrap_i64]; omega) | (unfold wrap64; omega)
set_option maxRecDepth 100000 in
set_option maxHeartbeats 1000000 in
theorem lexTwo_good (A B : ByteArray) (hA : A.size ≤ 5000) (hB : B.size ≤ 5000) (tx X Y Z : List Yd) (n1 n2 n3 : Nat) (hn1 : X.length = n1) (hn2 : Y.length = n2) (hn3 : Z.length = n3) (h1 : n1 = tx.length + 1) (h3 : n3 = tx.length + n2) (hl : n1 ≤ 6000) (hl2 : n2 ≤ 6000)
    (hx : ∀ k (h : k < tx.length) (h1 : k < X.length) (h3 : k < Z.length), Z[k] = X[k])
    (hy : ∀ k (h2 : k < Y.length) (h3 : tx.length + k < Z.length), Z[tx.length + k].t = Y[k].t ∧ Z[tx.length + k].a = Y[k].a + ((A.size : Nat) + 1)) (hya : ∀ k (h2 : k < Y.length), 0 ≤ Y[k].a ∧ Y[k].a ≤ 6000) (w : World) (ht : Tabs w) (hm : MarksIn w)
    (c1 : ∀ w, Tabs w → MarksIn w → Calls Tryd.prog 8 #[.string A] w fun e w' => Below w.heap.size w w' ∧ ∃ g cap, e = .returned (.tuple #[.slice (some ⟨g, 0, none⟩) n1 cap, .agg #[.int .i64 0, .int .i64 0]]) ∧ TokRow w' w.heap.size g cap X)
    (c2 : ∀ w, Tabs w → MarksIn w → Calls Tryd.prog 8 #[.string B] w fun e w' => Below w.heap.size w w' ∧ ∃ g cap, e = .returned (.tuple #[.slice (some ⟨g, 0, none⟩) n2 cap, .agg #[.int .i64 0, .int .i64 0]]) ∧ TokRow w' w.heap.size g cap Y)
    (c3 : ∀ w, Tabs w → MarksIn w → Calls Tryd.prog 8 #[.string (A ++ ⟨#[10]⟩ ++ B)] w fun e w' => Below w.heap.size w w' ∧ ∃ g cap, e = .returned (.tuple #[.slice (some ⟨g, 0, none⟩) n3 cap, .agg #[.int .i64 0, .int .i64 0]]) ∧ TokRow w' w.heap.size g cap Z) :
    Calls Tryd.prog 6 #[.string A, .string B] w fun e w' => e = .returned (.bool true) ∧ Below w.heap.size w w' := by
  have c' : ¬ (A.size : Int) > 5000 := by omega
  have d' : ¬ (B.size : Int) > 5000 := by omega
  obtain ⟨v1, v2, v3, v4⟩ := lt_ar tx.length n1 n2 n3 h1 h3 hl hl2
  have hS := Sx.refl ht hm
  have HA := hid hA
  have HX := hid hx
  have HY := hid hy
  have HYA := hid hya
  have HN := hid (And.intro hn1 (And.intro hn2 (And.intro hn3 (And.intro h1 (And.intro h3 (And.intro hl hl2))))))
  clear ht hm hA hB hx hy hya hn1 hn2 hn3 h1 h3 hl hl2
  go_enter Tryd.func6, Tryd.ntmps6
  go_upto_region 4 with (go_at_call 8; (with_reducible refine (c1 _ hS.tabs hS.marks).mono ?_); rintro e wn ⟨hb, g1, k1, rfl, r1⟩; (replace hS := hS.go hb); clear hb)
  have f1 := Blk.new wn #[Value.int .i64 0, Value.int .i64 0] 25
  replace hS := hS.alloc (Obj.cells #[Value.int .i64 0, Value.int .i64 0] 25)
  replace r1 := r1.below ((Below.refl _ wn).alloc (Nat.le_refl _) (Obj.cells #[Value.int .i64 0, Value.int .i64 0] 25))
  generalize World.alloc wn _ = W1 at *
  generalize wn.heap.size = b1 at *
  go_upto_region 5 with (go_at_call 8; (with_reducible refine (c2 _ hS.tabs hS.marks).mono ?_); rintro e wn ⟨hb, g2, k2, rfl, r2⟩; (replace hS := hS.go hb); (replace f1 := f1.go hb); (replace r1 := r1.below hb); clear hb)
  have f2 := Blk.new wn #[Value.int .i64 0, Value.int .i64 0] 25
  replace f1 := f1.alloc (Obj.cells #[Value.int .i64 0, Value.int .i64 0] 25)
  replace hS := hS.alloc (Obj.cells #[Value.int .i64 0, Value.int .i64 0] 25)
  replace r1 := r1.below ((Below.refl _ wn).alloc (Nat.le_refl _) (Obj.cells #[Value.int .i64 0, Value.int .i64 0] 25))
  replace r2 := r2.below ((Below.refl _ wn).alloc (Nat.le_refl _) (Obj.cells #[Value.int .i64 0, Value.int .i64 0] 25))
  generalize World.alloc wn _ = W2 at *
  generalize wn.heap.size = b2 at *
  go_upto_region 6 with (go_at_call 8; (with_reducible refine (c3 _ hS.tabs hS.marks).mono ?_); rintro e wn ⟨hb, g3, k3, rfl, r3⟩; (replace hS := hS.go hb); (replace f1 := f1.go hb); (replace f2 := f2.go hb); (replace r1 := r1.below hb); (replace r2 := r2.below hb); clear hb)
  have f3 := Blk.new wn #[Value.int .i64 0, Value.int .i64 0] 25
  replace f1 := f1.alloc (Obj.cells #[Value.int .i64 0, Value.int .i64 0] 25)
  replace f2 := f2.alloc (Obj.cells #[Value.int .i64 0, Value.int .i64 0] 25)
  replace hS := hS.alloc (Obj.cells #[Value.int .i64 0, Value.int .i64 0] 25)
  replace r1 := r1.below ((Below.refl _ wn).alloc (Nat.le_refl _) (Obj.cells #[Value.int .i64 0, Value.int .i64 0] 25))
  replace r2 := r2.below ((Below.refl _ wn).alloc (Nat.le_refl _) (Obj.cells #[Value.int .i64 0, Value.int .i64 0] 25))
  replace r3 := r3.below ((Below.refl _ wn).alloc (Nat.le_refl _) (Obj.cells #[Value.int .i64 0, Value.int .i64 0] 25))
  generalize World.alloc wn _ = W3 at *
  generalize wn.heap.size = b3 at *
  have q0 := f1.cells 0
  have q1 := f2.cells 0
  have q3 := f3.cells 0
  simp at q0 q1 q3
  have R1 := hid r1
  have R2 := hid r2
  have R3 := hid r3
  have HS := hid hS
  clear c1 c2 c3 r1 r2 r3 f1 f2 f3 hS
  go_wp2_with fail
  clear q0 q1 q3 v1 v2 v3 v4 c' d'
  go_loopw [11] (fun i wr => ∃ k : Nat, i = .int .i64 k ∧ k ≤ tx.length ∧ Below W3.heap.size W3 wr) (fun i _ => tx.length - (intOf i).toNat)
  case atStart => exact ⟨0, rfl, by omega, Below.refl _ _⟩
  case round =>
    obtain ⟨k, rfl, hk, hB⟩ := hrel
    obtain ⟨hn1, hn2, hn3, h1, h3, hl, hl2⟩ := HN.out
    have s1 := R1.out.below hB
    have s3 := R3.out.below hB
    have vk : IntKind.i64.wrap ((k : Int) + 1) = ((k + 1 : Nat) : Int) := by rw [IntKind.wrap_i64]; omega
    have vk2 : wrap64 ((k : Int) + 1) = ((k + 1 : Nat) : Int) := by unfold wrap64; omega
    by_cases c : k < tx.length
    · have kx : k < X.length := by omega
      have kz : k < Z.length := by omega
      obtain ⟨a0, a1, a2, a3, a4⟩ := s1.at k kx
      obtain ⟨e0, e1, e2, e3, e4⟩ := s3.at k kz
      rw [HX.out k c kx kz] at e0 e1 e2 e3 e4
      generalize X[k] = y at *
      have l1 : ((k + 1 : Nat) : Int) < (n1 : Int) := by omega
      have l2 : (k : Int) < (n1 : Int) := by omega
      have l3 : (k : Int) < (n3 : Int) := by omega
      have l0 : (0 : Int) ≤ (k : Int) := by omega
      have HB := hid hB
      have HK := hid hk
      have HC := hid c
      have HV := hid vk2
      clear s1 s3 hn1 hn2 hn3 h1 h3 hl hl2 hB hk c kx kz
      go_upto_region 15 with fail
      have inst : Nonempty (BW wr) := ⟨⟨_, Below.refl _ _⟩⟩
      have x0 := BW.cell a0
      have x1 := BW.cell a1
      have x2 := BW.cell a2
      have x3 := BW.cell a3
      have x4 := BW.cell a4
      have z0 := BW.cell e0
      have z1 := BW.cell e1
      have z2 := BW.cell e2
      have z3 := BW.cell e3
      have z4 := BW.cell e4
      clear a0 a1 a2 a3 a4 e0 e1 e2 e3 e4
      refine wp_region_quiet_below (by kernel_rfl) (by kernel_rfl) ?_
      repeat (go_big_quiet_step (fail))
      refine wpQuiet_nil ?_
      intro _ hw'
      obtain ⟨pw, hw''⟩ := hw'
      subst hw''
      clear x0 x1 x2 x3 x4 z0 z1 z2 z3 z4 l0 l1 l2 l3
      go_wp2
      go_roundw
      case rel => exact ⟨k + 1, by go_num, HC.out, HB.out.trans (pw.h.mono HB.out.size)⟩
      case measure => have := HC.out; simp [intOf]; omega
    · have ek : k = tx.length := by omega
      have l1 : ¬ ((k + 1 : Nat) : Int) < (n1 : Int) := by omega
      have HB := hid hB
      have HK := hid ek
      have HS2 := hid (HS.out.go hB)
      have P2 := hid (R2.out.below hB)
      have P3 := hid s3
      clear s1 s3 hn1 hn2 hn3 h1 h3 hl hl2 hB hk c R1 R2 R3 HS HX ek
      go_wp2_with fail
      clear l1 vk vk2
      go_loopw [12] (fun i wq => ∃ j : Nat, i = .int .i64 j ∧ j ≤ n2 ∧ Below wr.heap.size wr wq) (fun i _ => n2 - (intOf i).toNat)
      case atStart => exact ⟨0, rfl, by omega, Below.refl _ _⟩
      case round =>
        obtain ⟨j, rfl, hj, hBq⟩ := hrel
        have s2 := P2.out.below hBq
        have s3 := P3.out.below hBq
        by_cases c : j < n2
        · obtain ⟨hn1, hn2, hn3, h1, h3, hl, hl2⟩ := HN.out
          have jy : j < Y.length := by omega
          have jz : tx.length + j < Z.length := by omega
          obtain ⟨a0, a1, a2, a3, a4⟩ := s2.at j jy
          obtain ⟨e0, e1, e2, e3, e4⟩ := s3.at (tx.length + j) jz
          have ya := HYA.out j jy
          obtain ⟨et, ea⟩ := HY.out j jy jz
          rw [et] at e0 e2 e3 e4
          rw [ea] at e1
          clear et ea
          generalize Y[j] = y at *
          have l2 : (j : Int) < (n2 : Int) := by omega
          have l0 : (0 : Int) ≤ (j : Int) := by omega
          obtain ⟨m, hm⟩ : ∃ m, tx.length + j = m := ⟨_, rfl⟩
          rw [hm] at e0 e1 e2 e3 e4
          have l3 : (m : Int) < (n3 : Int) := by omega
          have l4 : (0 : Int) ≤ (m : Int) := by omega
          obtain ⟨o1, o2, o3, o4, o5, o6, o7, o8, o9, o10⟩ := lt_ar2 tx.length n1 j m A.size y.a h1 hm HA.out hl (by omega) ya.1 ya.2
          have HBq := hid hBq
          have HC := hid c
          have S3 := hid s3
          clear s2 s3 hn1 hn2 hn3 h1 h3 hl hl2 hBq hj c jy jz ya hm
          go_upto_region 22 with fail
          have f6 := Blk.new wr #[Value.int .i64 y.t.kind, Value.int .i64 (y.a + ((A.size : Int) + 1)), Value.string y.t.text, Value.int .i64 y.t.int, Value.int .u64 y.t.bits] 30
          have hB6 : Below wr.heap.size wr (wr.alloc (Obj.cells #[Value.int .i64 y.t.kind, Value.int .i64 (y.a + ((A.size : Int) + 1)), Value.string y.t.text, Value.int .i64 y.t.int, Value.int .u64 y.t.bits] 30)) := (Below.refl _ wr).alloc (Nat.le_refl _) _
          generalize World.alloc wr _ = W6 at *
          have HB6 := hid (HBq.out.trans (hB6.mono HBq.out.size))
          have p0 := (hB6.cell (p := ⟨g3, m * 5, none⟩) S3.out.2.1).trans e0
          have p1 := (hB6.cell (p := ⟨g3, m * 5 + 1, none⟩) S3.out.2.1).trans e1
          have p2 := (hB6.cell (p := ⟨g3, m * 5 + 2, none⟩) S3.out.2.1).trans e2
          have p3 := (hB6.cell (p := ⟨g3, m * 5 + 3, none⟩) S3.out.2.1).trans e3
          have p4 := (hB6.cell (p := ⟨g3, m * 5 + 4, none⟩) S3.out.2.1).trans e4
          generalize wr.heap.size = b6 at *
          have inst : Nonempty (BW W6) := ⟨⟨_, Below.refl _ _⟩⟩
          have x0 := BW.cell (show W6.cell? ⟨b6, 0, none⟩ = some (.int .i64 y.t.kind) from f6.cells 0)
          have x1 := BW.cell (show W6.cell? ⟨b6, 1, none⟩ = some (.int .i64 (y.a + ((A.size : Int) + 1))) from f6.cells 1)
          have x2 := BW.cell (show W6.cell? ⟨b6, 2, none⟩ = some (.string y.t.text) from f6.cells 2)
          have x3 := BW.cell (show W6.cell? ⟨b6, 3, none⟩ = some (.int .i64 y.t.int) from f6.cells 3)
          have x4 := BW.cell (show W6.cell? ⟨b6, 4, none⟩ = some (.int .u64 y.t.bits) from f6.cells 4)
          have z0 := BW.cell p0
          have z1 := BW.cell p1
          have z2 := BW.cell p2
          have z3 := BW.cell p3
          have z4 := BW.cell p4
          clear p0 p1 p2 p3 p4 a0 a1 a2 a3 a4 e0 e1 e2 e3 e4 f6 hB6
          refine wp_region_quiet_below (by kernel_rfl) (by kernel_rfl) ?_
          repeat (go_big_quiet_step (fail))
          refine wpQuiet_nil ?_
          intro _ hw'
          obtain ⟨pw, hw''⟩ := hw'
          subst hw''
          clear x0 x1 x2 x3 x4 z0 z1 z2 z3 z4 l0 l2 l3 l4
          go_wp2
          go_roundw
          case rel => exact ⟨j + 1, by go_num, HC.out, HB6.out.trans (pw.h.mono HB6.out.size)⟩
          case measure => have := HC.out; simp [intOf]; omega
        · have l2 : ¬ (j : Int) < (n2 : Int) := by omega
          have hS := HS2.out.go hBq
          clear s2 s3 hBq hj c
          go_wp2_with (go_at_call 11; refine (awake11_c _ hS.tabs hS.marks).mono ?_; rintro e wn ⟨rfl, hb⟩; (replace hS := hS.go hb); clear hb)
          go_ret
          exact ⟨rfl, hS.bel⟩
end Go.Proofs.YtfjkkndmngaaiaaDoor.W
/- LexLong: the walk. -/
namespace Go.Proofs.YtfjkkndmngaaiaaDoor.W
open Go.ChangeShapes Go.WideShapes Go.RowKit Go.Shelf
set_option linter.unusedVariables false
set_option linter.unusedSimpArgs false
theorem allR_bad {Ys : List Yd} {B : Nat} {e : Ending} {w' : World} {y : Yd} (h : AllR Ys B e w') (hY : Ys.find? (fun y => y.c != 0) = some y) : e = .returned (.tuple #[.slice none 0 0, .agg #[.int .i64 y.c, .int .i64 y.f]]) := by
  rcases h with ⟨z, h1, h2⟩ | ⟨h0, _⟩
  · obtain rfl := Option.some.inj (hY.symm.trans h1)
    exact h2
  · have := List.find?_some hY
    rw [h0 y (List.mem_of_find?_eq_some hY)] at this
    cases this
theorem allR_good {Ys : List Yd} {B : Nat} {e : Ending} {w' : World} (h : AllR Ys B e w') (h0 : ∀ y ∈ Ys, y.c = 0) (hn : 0 < Ys.length) : ∃ g cap, e = .returned (.tuple #[.slice (some ⟨g, 0, none⟩) Ys.length cap, .agg #[.int .i64 0, .int .i64 0]]) ∧ TokRow w' B g cap Ys := by
  rcases h with ⟨y, h1, _⟩ | ⟨_, v, he, hown⟩
  · have := List.find?_some h1
    have hm := List.mem_of_find?_eq_some h1
    rw [h0 y hm] at this
    cases this
  · rcases hown.2 with ⟨_, e0⟩ | ⟨g, cap, cur, rfl, h2, h3, h4, h5, h6, h7⟩
    · omega
    · refine ⟨g, cap, he, h2, (Array.getElem?_eq_some_iff.1 h3).1, h4, fun k hk => ?_⟩
      rw [cell_of_row _ g k _ _ _ h3, ← h7, List.getElem?_take, if_pos (by omega), Array.getElem?_toList]
theorem rowL_at (n i : Nat) (h : i < n) : (rowL n i)[i]? = some (.int .u8 0) := by
  unfold rowL
  rw [List.getElem?_append_right (by simp), List.length_replicate, Nat.sub_self, List.getElem?_replicate, if_pos (by omega)]
theorem rowL_end (n : Nat) (h : 0 < n) : (rowL n n)[n - 1]? = some (.int .u8 32) := by
  unfold rowL
  rw [List.getElem?_append_left (by simp; omega), List.getElem?_replicate, if_pos (by omega)]
theorem ll_ar (n i : Nat) (h : i ≤ 66000) (h2 : n ≤ 66000) (h3 : 0 < n) : IntKind.i64.wrap ((i : Int) + 1) = ((i + 1 : Nat) : Int) ∧ wrap64 ((i : Int) + 1) = ((i + 1 : Nat) : Int) ∧ IntKind.i64.wrap ((n : Int) - 1) = ((n - 1 : Nat) : Int) ∧ wrap64 ((n : Int) - 1) = ((n - 1 : Nat) : Int) := by
  refine ⟨?_, ?_, ?_, ?_⟩ <;> first | (rw [IntKind.wrap_i64]; omega) | (unfold wrap64; omega)
theorem ll_ar1 (k : Nat) (h : k ≤ 100000) : IntKind.i64.wrap ((k : Int) + 1) = ((k + 1 : Nat) : Int) ∧ wrap64 ((k : Int) + 1) = ((k + 1 : Nat) : Int) := by
  refine ⟨?_, ?_⟩
  · rw [IntKind.wrap_i64]; omega
  · unfold wrap64; omega
set_option maxRecDepth 100000 in
set_option maxHeartbeats 4000000 in
theorem lexLong_front (n : Nat) (c : UInt8) (hn : 65000 ≤ n) (hn2 : n ≤ 66000) (hc : (((c.toNat : Int) != 32) = false) ∨ (((c.toNat : Int) != 32) = true ∧ ((c.toNat : Int) != 10) = false) ∨ (((c.toNat : Int) != 32) = true ∧ ((c.toNat : Int) != 10) = true ∧ ((c.toNat : Int) != 97) = false) ∨ (((c.toNat : Int) != 32) = true ∧ ((c.toNat : Int) != 10) = true ∧ ((c.toNat : Int) != 97) = true ∧ ((c.toNat : Int) != 55) = false) ∨ (((c.toNat : Int) != 32) = true ∧ ((c.toNat : Int) != 10) = true ∧ ((c.toNat : Int) != 97) = true ∧ ((c.toNat : Int) != 55) = true ∧ ((c.toNat : Int) != 34) = false) ∨ (((c.toNat : Int) != 32) = true ∧ ((c.toNat : Int) != 10) = true ∧ ((c.toNat : Int) != 97) = true ∧ ((c.toNat : Int) != 55) = true ∧ ((c.toNat : Int) != 34) = true ∧ ((c.toNat : Int) != 40) = false)) (w : World) (ht : Tabs w) (hm : MarksIn w) (N1 : Nat) (hN1 : N1 = n - 1)
    (lex : (65536 < n ∧ ∀ w, Tabs w → MarksIn w → Calls Tryd.prog 8 #[.string ⟨(longL n c).toArray⟩] w fun e w' => Below w.heap.size w w' ∧ e = .returned (.tuple #[.slice none 0 0, .agg #[.int .i64 2, .int .i64 0]])) ∨
      (¬ 65536 < n ∧ ∃ x f, (∀ w, Tabs w → MarksIn w → Calls Tryd.prog 8 #[.string ⟨(longL n c).toArray⟩] w fun e w' => Below w.heap.size w w' ∧ e = .returned (.tuple #[.slice none 0 0, .agg #[.int .i64 x, .int .i64 f]])) ∧ (∀ w, Calls Tryd.prog 7 #[.string ⟨(longL n c).toArray⟩] w fun e w' => Below w.heap.size w w' ∧ e = .returned (.tuple #[.slice none 0 0, .agg #[.int .i64 x, .int .i64 f]]))) ∨
      (¬ 65536 < n ∧ ∃ (Ys : List Yd) (m : Nat), Ys.length = m ∧ m ≤ 100000 ∧ (∀ w, Tabs w → MarksIn w → Calls Tryd.prog 8 #[.string ⟨(longL n c).toArray⟩] w fun e w' => Below w.heap.size w w' ∧ ∃ g cap, e = .returned (.tuple #[.slice (some ⟨g, 0, none⟩) m cap, .agg #[.int .i64 0, .int .i64 0]]) ∧ TokRow w' w.heap.size g cap Ys) ∧ (∀ w, Calls Tryd.prog 7 #[.string ⟨(longL n c).toArray⟩] w fun e w' => Below w.heap.size w w' ∧ ∃ g cap, e = .returned (.tuple #[.slice (some ⟨g, 0, none⟩) m cap, .agg #[.int .i64 0, .int .i64 0]]) ∧ TokRow w' w.heap.size g cap Ys))) :
    Calls Tryd.prog 4 #[.int .i64 (n : Int), .int .u8 (c.toNat : Int)] w fun e w' => e = .returned (.bool true) ∧ Below w.heap.size w w' := by
  have g1 : ¬ (n : Int) < 65000 := by omega
  have g2 : ¬ (n : Int) > 66000 := by omega
  obtain ⟨W, hrun, hrow, hgr⟩ := make_bytes w n (by omega)
  have hbel := grown_below hgr
  have HTM := hid (And.intro ht hm)
  have HN := hid (And.intro hn hn2)
  have HN1 := hid hN1
  have HL := hid lex
  have HBE := hid hbel
  have HROW := hid hrow
  obtain ⟨B, hB⟩ : ∃ B, w.heap.size = B := ⟨_, rfl⟩
  have HB := hid hB
  rw [hB] at hrun
  clear hgr hn hn2 hN1 lex hbel hrow ht hm
  rcases hc with x0 | ⟨x0, x1⟩ | ⟨x0, x1, x2⟩ | ⟨x0, x1, x2, x3⟩ | ⟨x0, x1, x2, x3, x4⟩ | ⟨x0, x1, x2, x3, x4, x5⟩
  all_goals (
    go_enter Tryd.func4, Tryd.ntmps4
    go_upto_region 3 with fail
    (try clear x0)
    (try clear x1)
    (try clear x2)
    (try clear x3)
    (try clear x4)
    (try clear x5)
    clear g1 g2
    go_wp2_with fail
    clear hrun
    go_loopw [6] (fun i wr => ∃ k : Nat, i = .int .i64 k ∧ k ≤ n ∧ wr.heap[B]? = some (.cells (rowL n k).toArray 5 (0, 0)) ∧ Below w.heap.size w wr) (fun i _ => n - (intOf i).toNat)
    case atStart => exact ⟨0, rfl, Nat.zero_le _, by rw [← HB.out]; exact HROW.out, HBE.out⟩
    case round =>
      obtain ⟨k, rfl, hk, hr, hb⟩ := hrel
      obtain ⟨v1, v2, v3, v4⟩ := ll_ar n k (by have := HN.out; omega) HN.out.2 (by have := HN.out; omega)
      by_cases ck : k < n
      · have l1 : (k : Int) < (n : Int) := by omega
        have l0 : (0 : Int) ≤ (k : Int) := by omega
        have c0 : wr.cell? ⟨B, k, none⟩ = some (.int .u8 0) := by rw [row_cellsX hr k]; simpa using rowL_at n k ck
        have f0 := row_thawX hr
        have HR := hid (show (wr.setCell ⟨B, k, none⟩ (.int .u8 32)).heap[B]? = some (.cells (rowL n (k + 1)).toArray 5 (0, 0)) by rw [heap_setX hr k (.int .u8 32), rowL_set n k ck])
        have HBB := hid (hb.setCell (p := ⟨B, k, none⟩) (by show w.heap.size ≤ B; rw [HB.out]; exact Nat.le_refl _) (.int .u8 32))
        have HK := hid ck
        clear hr hb hk ck v3 v4
        go_wp2
        go_roundw
        case rel => exact ⟨k + 1, by go_num, HK.out, HR.out, HBB.out⟩
        case measure => have := HK.out; simp [intOf]; omega
      · have ek : k = n := by omega
        subst ek
        have l1 : ¬ (k : Int) < (k : Int) := by omega
        rw [← HN1.out] at v3 v4
        have l2 : (0 : Int) ≤ (N1 : Int) := by omega
        have l3 : (N1 : Int) < (k : Int) := by have := HN1.out; have := HN.out; omega
        have c0 : wr.cell? ⟨B, N1, none⟩ = some (.int .u8 32) := by rw [row_cellsX hr N1, HN1.out]; simpa using rowL_end k (by have := HN.out; omega)
        have f0 := row_thawX hr
        have hR2 : (wr.setCell ⟨B, N1, none⟩ (.int .u8 (c.toNat : Int))).heap[B]? = some (.cells (bytesV (longL k c)).toArray 5 (0, 0)) := by
          rw [heap_setX hr N1 (.int .u8 (c.toNat : Int)), HN1.out, rowL_last k c (by have := HN.out; omega)]
        have hb2 := hb.setCell (p := ⟨B, N1, none⟩) (by show w.heap.size ≤ B; rw [HB.out]; exact Nat.le_refl _) (.int .u8 (c.toNat : Int))
        clear hr hb hk ck v1 v2
        go_upto_region 9 with fail
        generalize wr.setCell ⟨B, N1, none⟩ (.int .u8 (c.toNat : Int)) = W3 at *
        clear c0 f0 l1 l2 l3 v3 v4
        have hS : Sx w W3 := ⟨hb2, HTM.out.1.below hb2, HTM.out.2.below hb2⟩
        have kc := conv_own (longL k c) (long_own hR2 (by have := HN.out; omega) (by have := HN.out; omega))
        have HR2 := hid hR2
        clear hR2 hb2
        rcases HL.out with ⟨big, c1⟩ | ⟨big, x, f, c1, c2⟩ | ⟨big, Ys, m, hm1, hm2, c1, c2⟩
        · have g1 : (k : Int) > 65536 := by omega
          clear HL
          go_upto_region 10 with (go_at_call 8; (with_reducible refine (c1 _ hS.tabs hS.marks).mono ?_); rintro e wn ⟨hb, rfl⟩; (replace hS := hS.go hb); clear hb)
          have f1 := Blk.new wn #[Value.int .i64 2, Value.int .i64 0] 25
          replace hS := hS.alloc (Obj.cells #[Value.int .i64 2, Value.int .i64 0] 25)
          generalize World.alloc wn _ = W4 at *
          generalize wn.heap.size = b4 at *
          have q0 := f1.cells 0
          have q1 := f1.cells 1
          simp at q0 q1
          clear c1 kc big
          go_wp2_with (go_at_call 11; refine (awake11_c _ hS.tabs hS.marks).mono ?_; rintro e wn ⟨rfl, hb⟩; (replace hS := hS.go hb); clear hb)
          go_ret
          exact ⟨rfl, hS.bel⟩
        · have g1 : ¬ (k : Int) > 65536 := by omega
          clear HL
          go_upto_region 10 with (go_at_call 8; (with_reducible refine (c1 _ hS.tabs hS.marks).mono ?_); rintro e wn ⟨hb, rfl⟩; (replace hS := hS.go hb); (replace HR2 := hid (row_keepX HR2.out hb)); clear hb)
          have f1 := Blk.new wn #[Value.int .i64 x, Value.int .i64 f] 25
          replace hS := hS.alloc (Obj.cells #[Value.int .i64 x, Value.int .i64 f] 25)
          replace HR2 := hid (row_keepX HR2.out ((Below.refl _ wn).alloc (Nat.le_refl _) (Obj.cells #[Value.int .i64 x, Value.int .i64 f] 25)))
          generalize World.alloc wn _ = W4 at *
          generalize wn.heap.size = b4 at *
          have kc2 := conv_own (longL k c) (long_own HR2.out (by have := HN.out; omega) (by have := HN.out; omega))
          clear c1 kc big
          go_upto_region 13 with (go_at_call 7; (with_reducible refine (c2 _).mono ?_); rintro e wn ⟨hb, rfl⟩; (replace hS := hS.go hb); (replace f1 := f1.go hb); clear hb)
          have f2 := Blk.new wn #[Value.int .i64 x, Value.int .i64 f] 25
          replace f1 := f1.alloc (Obj.cells #[Value.int .i64 x, Value.int .i64 f] 25)
          replace hS := hS.alloc (Obj.cells #[Value.int .i64 x, Value.int .i64 f] 25)
          generalize World.alloc wn _ = W5 at *
          generalize wn.heap.size = b5 at *
          have q0 := f1.cells 0
          have q1 := f1.cells 1
          have q2 := f2.cells 0
          have q3 := f2.cells 1
          simp at q0 q1 q2 q3
          clear c2 kc2 g1
          go_wp2_with fail
          refine wp_loop_rounds 1 ?_
          rw [rounds_succ]
          go_wp2_with (go_at_call 11; refine (awake11_c _ hS.tabs hS.marks).mono ?_; rintro e wn ⟨rfl, hb⟩; (replace hS := hS.go hb); clear hb)
          go_ret
          exact ⟨rfl, hS.bel⟩
        · have g1 : ¬ (k : Int) > 65536 := by omega
          clear HL
          go_upto_region 10 with (go_at_call 8; (with_reducible refine (c1 _ hS.tabs hS.marks).mono ?_); rintro e wn ⟨hb, ga, ka, rfl, r1⟩; (replace hS := hS.go hb); (replace HR2 := hid (row_keepX HR2.out hb)); clear hb)
          have f1 := Blk.new wn #[Value.int .i64 0, Value.int .i64 0] 25
          replace hS := hS.alloc (Obj.cells #[Value.int .i64 0, Value.int .i64 0] 25)
          replace HR2 := hid (row_keepX HR2.out ((Below.refl _ wn).alloc (Nat.le_refl _) (Obj.cells #[Value.int .i64 0, Value.int .i64 0] 25)))
          replace r1 := r1.below ((Below.refl _ wn).alloc (Nat.le_refl _) (Obj.cells #[Value.int .i64 0, Value.int .i64 0] 25))
          generalize World.alloc wn _ = W4 at *
          generalize wn.heap.size = b4 at *
          have kc2 := conv_own (longL k c) (long_own HR2.out (by have := HN.out; omega) (by have := HN.out; omega))
          clear c1 kc big
          go_upto_region 13 with (go_at_call 7; (with_reducible refine (c2 _).mono ?_); rintro e wn ⟨hb, gb, kb, rfl, r2⟩; (replace hS := hS.go hb); (replace f1 := f1.go hb); (replace r1 := r1.below hb); clear hb)
          have f2 := Blk.new wn #[Value.int .i64 0, Value.int .i64 0] 25
          replace f1 := f1.alloc (Obj.cells #[Value.int .i64 0, Value.int .i64 0] 25)
          replace hS := hS.alloc (Obj.cells #[Value.int .i64 0, Value.int .i64 0] 25)
          replace r1 := r1.below ((Below.refl _ wn).alloc (Nat.le_refl _) (Obj.cells #[Value.int .i64 0, Value.int .i64 0] 25))
          replace r2 := r2.below ((Below.refl _ wn).alloc (Nat.le_refl _) (Obj.cells #[Value.int .i64 0, Value.int .i64 0] 25))
          generalize World.alloc wn _ = W5 at *
          generalize wn.heap.size = b5 at *
          have q0 := f1.cells 0
          have q1 := f1.cells 1
          have q2 := f2.cells 0
          have q3 := f2.cells 1
          simp at q0 q1 q2 q3
          have R1 := hid r1
          have R2 := hid r2
          have HS5 := hid hS
          have HM := hid (And.intro hm1 hm2)
          clear c2 kc2 g1 r1 r2 hS f1 f2 hm1 hm2
          go_wp2_with fail
          clear q0 q1 q2 q3
          go_loopw [11] (fun i wq => ∃ j : Nat, i = .int .i64 j ∧ j ≤ m ∧ Below W5.heap.size W5 wq) (fun i _ => m - (intOf i).toNat)
          case atStart => exact ⟨0, rfl, by omega, Below.refl _ _⟩
          case round =>
            obtain ⟨j, rfl, hj, hBq⟩ := hrel
            obtain ⟨hm1, hm2⟩ := HM.out
            have s1 := R1.out.below hBq
            have s2 := R2.out.below hBq
            obtain ⟨vj, vj2⟩ := ll_ar1 j (by omega)
            by_cases cj : j < m
            · have jy : j < Ys.length := by omega
              obtain ⟨a0, a1, a2, a3, a4⟩ := s1.at j jy
              obtain ⟨e0, e1, e2, e3, e4⟩ := s2.at j jy
              generalize Ys[j] = y at *
              have l2 : (j : Int) < (m : Int) := by omega
              have l0 : (0 : Int) ≤ (j : Int) := by omega
              have HBq := hid hBq
              have HC := hid cj
              clear s1 s2 hBq hj cj hm1 hm2 jy
              go_upto_region 18 with fail
              have inst : Nonempty (BW wr) := ⟨⟨_, Below.refl _ _⟩⟩
              have x0 := BW.cell a0
              have x1 := BW.cell a1
              have x2 := BW.cell a2
              have x3 := BW.cell a3
              have x4 := BW.cell a4
              have z0 := BW.cell e0
              have z1 := BW.cell e1
              have z2 := BW.cell e2
              have z3 := BW.cell e3
              have z4 := BW.cell e4
              clear a0 a1 a2 a3 a4 e0 e1 e2 e3 e4
              refine wp_region_quiet_below (by kernel_rfl) (by kernel_rfl) ?_
              repeat (go_big_quiet_step (fail))
              refine wpQuiet_nil ?_
              intro _ hw'
              obtain ⟨pw, hw''⟩ := hw'
              subst hw''
              clear x0 x1 x2 x3 x4 z0 z1 z2 z3 z4 l0 l2
              go_wp2
              go_roundw
              case rel => exact ⟨j + 1, by go_num, HC.out, HBq.out.trans (pw.h.mono HBq.out.size)⟩
              case measure => have := HC.out; simp [intOf]; omega
            · have l2 : ¬ (j : Int) < (m : Int) := by omega
              have hS := HS5.out.go hBq
              clear s1 s2 hBq hj cj hm1 hm2
              go_wp2_with (go_at_call 11; refine (awake11_c _ hS.tabs hS.marks).mono ?_; rintro e wn ⟨rfl, hb⟩; (replace hS := hS.go hb); clear hb)
              go_ret
              exact ⟨rfl, hS.bel⟩)
end Go.Proofs.YtfjkkndmngaaiaaDoor.W
/- LexLong: the walk. -/
namespace Go.Proofs.YtfjkkndmngaaiaaDoor.W
open Go.ChangeShapes Go.WideShapes Go.RowKit Go.Shelf
set_option linter.unusedVariables false
set_option maxRecDepth 100000 in
theorem lexLong_out (a b : Int) (h : a < 65000 ∨ a > 66000 ∨ ((b != 32) = true ∧ (b != 10) = true ∧ (b != 97) = true ∧ (b != 55) = true ∧ (b != 34) = true ∧ (b != 40) = true)) (w : World) : Calls Tryd.prog 4 #[.int .i64 a, .int .u8 b] w fun e w' => e = .returned (.bool true) ∧ Below w.heap.size w w' := by
  by_cases g1 : a < 65000
  · clear h
    go_enter Tryd.func4, Tryd.ntmps4
    go_wp2
    go_ret
    exact ⟨rfl, Below.refl _ _⟩
  · by_cases g2 : a > 66000
    · clear h
      go_enter Tryd.func4, Tryd.ntmps4
      go_wp2
      go_ret
      exact ⟨rfl, Below.refl _ _⟩
    · rcases h with h | h | ⟨x0, x1, x2, x3, x4, x5⟩
      · exact absurd h g1
      · exact absurd h g2
      · go_enter Tryd.func4, Tryd.ntmps4
        go_wp2
        go_ret
        exact ⟨rfl, Below.refl _ _⟩
theorem lexLong_in (n : Nat) (c : UInt8) (hn : 65000 ≤ n) (hn2 : n ≤ 66000) (hc : c = 32 ∨ c = 10 ∨ c = 97 ∨ c = 55 ∨ c = 34 ∨ c = 40) (w : World) (ht : Tabs w) (hm : MarksIn w) : Calls Tryd.prog 4 #[.int .i64 (n : Int), .int .u8 (c.toNat : Int)] w fun e w' => e = .returned (.bool true) ∧ Below w.heap.size w w' := by
  have hd : (⟨(longL n c).toArray⟩ : ByteArray).data.toList = longL n c := by simp
  have hsz : (⟨(longL n c).toArray⟩ : ByteArray).size = n := by rw [← size_list, hd, longL_len n c (by omega)]
  have hdig : digB c = true → c = 55 := by
    rcases hc with rfl | rfl | rfl | rfl | rfl | rfl <;> decide
  refine lexLong_front n c hn hn2 ?_ w ht hm (n - 1) rfl ?_
  · rcases hc with rfl | rfl | rfl | rfl | rfl | rfl
    · exact .inl (by decide)
    · exact .inr (.inl (by decide))
    · exact .inr (.inr (.inl (by decide)))
    · exact .inr (.inr (.inr (.inl (by decide))))
    · exact .inr (.inr (.inr (.inr (.inl (by decide)))))
    · exact .inr (.inr (.inr (.inr (.inr (by decide)))))
  · by_cases big : 65536 < n
    · left
      refine ⟨big, fun w ht hm => ?_⟩
      refine all_bad ⟨(longL n c).toArray⟩ (by omega) ⟨noTk, 0, 2, 0⟩ ?_ w ht hm
      rw [hd]
      unfold srcY
      rw [if_pos (by rw [longL_len n c (by omega)]; exact big)]
      rfl
    · right
      have hsrc : srcY (⟨(longL n c).toArray⟩ : ByteArray).data.toList = T (longL n c) 0 := by rw [hd]; exact src_T _ (by rw [longL_len n c (by omega)]; omega)
      have cr := fun w => rLong_c ⟨(longL n c).toArray⟩ n c hn (by omega) hd hdig w
      rw [hd] at cr
      obtain ⟨ts, z, hT, hts, hz⟩ := T_form _ (longL n c) 0 (Nat.le_refl _)
      have hl := srcY_len (⟨(longL n c).toArray⟩ : ByteArray).data.toList
      rw [hsrc, size_list, hsz] at hl
      by_cases hzc : z.c = 0
      · right
        have h0 : ∀ y ∈ T (longL n c) 0, y.c = 0 := by
          rw [hT]
          intro y hy
          rcases List.mem_append.1 hy with hy | hy
          · exact (hts y hy).1
          · simp only [List.mem_singleton] at hy; rw [hy]; exact hzc
        have hpos : 0 < (T (longL n c) 0).length := by rw [hT]; simp
        refine ⟨big, T (longL n c) 0, _, rfl, by omega, fun w ht hm => all_good _ (by omega) _ hsrc h0 hpos w ht hm, fun w => ?_⟩
        refine (cr w).mono ?_
        rintro e w' ⟨h1, h2⟩
        exact ⟨h1, allR_good h2 h0 hpos⟩
      · left
        have hf : (T (longL n c) 0).find? (fun y => y.c != 0) = some z := by rw [hT]; exact find_last' ts z (fun y hy => (hts y hy).1) hzc
        refine ⟨big, z.c, z.f, fun w ht hm => all_bad _ (by omega) z (by rw [hsrc]; exact hf) w ht hm, fun w => ?_⟩
        refine (cr w).mono ?_
        rintro e w' ⟨h1, h2⟩
        exact ⟨h1, allR_bad h2 hf⟩
theorem lexLong_walk (a0 a1 : Int) (w0 : (Lit.int .i64 a0).wf = true) (w1 : (Lit.int .u8 a1).wf = true) (w : World) (ht : Tabs w) (hm : MarksIn w) : Calls Tryd.prog 4 #[.int .i64 a0, .int .u8 a1] w fun e w' => e = .returned (.bool true) ∧ Below w.heap.size w w' := by
  have hb : 0 ≤ a1 ∧ a1 ≤ 255 := by
    simp [Lit.wf] at w1
    have e1 : IntKind.u8.min = 0 := by decide
    have e2 : IntKind.u8.max = 255 := by decide
    omega
  by_cases g1 : a0 < 65000
  · exact lexLong_out a0 a1 (.inl g1) w
  · by_cases g2 : a0 > 66000
    · exact lexLong_out a0 a1 (.inr (.inl g2)) w
    · by_cases g3 : a1 = 32 ∨ a1 = 10 ∨ a1 = 97 ∨ a1 = 55 ∨ a1 = 34 ∨ a1 = 40
      · obtain ⟨n, rfl⟩ := Int.eq_ofNat_of_zero_le (show 0 ≤ a0 by omega)
        obtain ⟨m, rfl⟩ := Int.eq_ofNat_of_zero_le hb.1
        have hc : (m.toUInt8).toNat = m := by simp; omega
        have key := lexLong_in n m.toUInt8 (by omega) (by omega) (by
          have : m = 32 ∨ m = 10 ∨ m = 97 ∨ m = 55 ∨ m = 34 ∨ m = 40 := by omega
          rcases this with rfl | rfl | rfl | rfl | rfl | rfl <;> decide) w ht hm
        rw [hc] at key
        exact key
      · refine lexLong_out a0 a1 (.inr (.inr ⟨?_, ?_, ?_, ?_, ?_, ?_⟩)) w <;> (simp; omega)
end Go.Proofs.YtfjkkndmngaaiaaDoor.W
