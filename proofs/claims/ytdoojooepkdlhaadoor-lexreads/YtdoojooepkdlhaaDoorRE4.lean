/- Contract of the reference: which pattern a row of bits is. -/
import Derived.Test.YtdoojooepkdlhaaDoorRX4
namespace Go.Proofs.YtdoojooepkdlhaaDoor.W
open Go.ChangeShapes Go.WideShapes Go.RowKit

/-- a row of bits in a block, from an offset on -/
structure SubR (w : World) (g : Nat) (off len : Nat) (l : List Nat) : Prop where
  size : l.length = len
  bit : ∀ b ∈ l, b ≤ 1
  cell : ∀ j, j < len → w.cell? ⟨g, off + j, none⟩ = some (.int .i64 ((l.getD j 0 : Nat) : Int))
theorem SubR.tail {w : World} {g off len b : Nat} {l : List Nat} (h : SubR w g off len (b :: l)) : SubR w g (off + 1) (len - 1) l := by
  have hl := h.size
  simp only [List.length_cons] at hl
  refine ⟨by omega, fun x hx => h.bit x (by simp [hx]), fun j hj => ?_⟩
  have := h.cell (j + 1) (by omega)
  rw [show off + 1 + j = off + (j + 1) by omega, this]
  rfl
theorem SubR.init {w : World} {g off len b : Nat} {l : List Nat} (h : SubR w g off len (l ++ [b])) : SubR w g off (len - 1) l := by
  have hl := h.size
  simp only [List.length_append, List.length_cons, List.length_nil] at hl
  refine ⟨by omega, fun x hx => h.bit x (by simp [hx]), fun j hj => ?_⟩
  rw [h.cell j (by omega)]
  simp [List.getD_eq_getElem?_getD, List.getElem?_append_left (show j < l.length by omega)]
def ansX (sg : Int) (o : Option Int) : Value := match o with | none => .tuple #[.int .u64 0, .int .i64 21] | some a => .tuple #[.int .u64 (sg + a), .int .i64 0]
theorem valB_take (l : List Nat) (k : Nat) (h : k < l.length) : valB (l.take (k + 1)) = 2 * valB (l.take k) + l.getD k 0 := by
  rw [List.take_succ_eq_append_getElem h, valB_snoc]
  simp [List.getD_eq_getElem?_getD, List.getElem?_eq_getElem h]
theorem valB_take_lt (l : List Nat) (hb : ∀ b ∈ l, b ≤ 1) (k : Nat) (h : l.length ≤ 53) : valB (l.take k) < 9007199254740992 := by
  have h1 := valB_lt (l.take k) (fun b hx => hb b (List.mem_of_mem_take hx))
  have h2 : 2 ^ (l.take k).length ≤ 2 ^ 53 := Nat.pow_le_pow_right (by decide) (by rw [List.length_take]; omega)
  have h3 : (2 : Nat) ^ 53 = 9007199254740992 := by decide
  omega
/-- what is left to reckon, by the row's own words -/
def leastI (high : Int) : Int := if high - 52 < -1074 then -1074 else high - 52
theorem exact_tail (N len : Nat) (low : Int) (hodd : N % 2 = 1) (hlog : N.log2 + 1 = len) :
    (53 < len ∨ 1023 < low + len - 1 ∨ low < -1074 → exactP N low = none) ∧
    (¬ (53 < len ∨ 1023 < low + len - 1 ∨ low < -1074) → leastI (low + len - 1) ≤ low ∧ N * 2 ^ (low - leastI (low + len - 1)).toNat < 9007199254740992 ∧
      (low + len - 1 < -1022 → exactP N low = some ((N * 2 ^ (low - leastI (low + len - 1)).toNat : Nat) : Int)) ∧
      (¬ low + len - 1 < -1022 → 4503599627370496 ≤ N * 2 ^ (low - leastI (low + len - 1)).toNat ∧ exactP N low = some ((low + len - 1 + 1023) * 4503599627370496 + (((N * 2 ^ (low - leastI (low + len - 1)).toNat : Nat) : Int) - 4503599627370496)))) := by
  have ex := exact_odd N low hodd
  have hn0 : N ≠ 0 := by omega
  obtain ⟨l1, l2⟩ := high_le hn0
  constructor
  · intro h
    rw [ex, if_pos (by omega)]
  · intro h
    have hc : ¬ (52 < N.log2 ∨ low < -1074 ∨ 1023 < low + N.log2) := by omega
    rw [ex, if_neg hc]
    have lt2 : N * 2 ^ (low - leastI (low + len - 1)).toNat < 2 ^ (N.log2 + 1) * 2 ^ (low - leastI (low + len - 1)).toNat := Nat.mul_lt_mul_of_pos_right l2 (Nat.two_pow_pos _)
    rw [← Nat.pow_add] at lt2
    have h53 : (2 : Nat) ^ 53 = 9007199254740992 := by decide
    by_cases hh : low + len - 1 < -1022
    · have hl : leastI (low + len - 1) = -1074 := by
        unfold leastI
        by_cases q : low + (len : Int) - 1 - 52 < -1074
        · rw [if_pos q]
        · rw [if_neg q]; omega
      rw [hl] at lt2 ⊢
      have e1 : low - -1074 = low + 1074 := by omega
      rw [e1] at lt2 ⊢
      have le2 : 2 ^ (N.log2 + 1 + (low + 1074).toNat) ≤ 2 ^ 53 := Nat.pow_le_pow_right (by decide) (by omega)
      refine ⟨by omega, by omega, fun _ => ?_, fun g => absurd hh g⟩
      rw [if_pos (by omega)]
    · have hl : leastI (low + len - 1) = low + len - 1 - 52 := by
        unfold leastI
        rw [if_neg (by omega)]
      rw [hl] at lt2 ⊢
      have e1 : (low - (low + (len : Int) - 1 - 52)).toNat = 52 - N.log2 := by omega
      rw [e1] at lt2 ⊢
      rw [show N.log2 + 1 + (52 - N.log2) = 53 by omega, h53] at lt2
      have ge : 2 ^ N.log2 * 2 ^ (52 - N.log2) ≤ N * 2 ^ (52 - N.log2) := Nat.mul_le_mul_right _ l1
      rw [← Nat.pow_add, show N.log2 + (52 - N.log2) = 52 by omega] at ge
      have h52 : (2 : Nat) ^ 52 = 4503599627370496 := by decide
      rw [h52] at ge
      refine ⟨by omega, lt2, fun g => absurd g hh, fun _ => ⟨ge, ?_⟩⟩
      rw [if_neg (by omega)]
      congr 1
      have e2 : ((low + (N.log2 : Int) + 1023).toNat : Int) = low + N.log2 + 1023 := by omega
      omega
set_option maxRecDepth 100000 in
set_option maxHeartbeats 4000000 in
theorem refExact_c (g n cap : Nat) (L : List Nat) (sg low : Int) (w : World) (hsub : SubR w g 0 n L) (hn : n ≤ 300) (hcap : n ≤ cap) (hcap2 : cap ≤ maxLen) (l0 : -200000 ≤ low) (l1 : low ≤ 200000) (hsg : sg = 0 ∨ sg = 9223372036854775808) :
    Calls Tryd.prog 46 #[.int .u64 sg, .slice (some ⟨g, 0, none⟩) n cap, .int .i64 low] w fun e w' => e = .returned (ansX sg (exactP (valB L) low)) ∧ w' = w := by
  unfold maxLen at hcap2
  have sg0 : 0 ≤ sg := by rcases hsg with rfl | rfl <;> omega
  have sg1 : sg ≤ 9223372036854775808 := by rcases hsg with rfl | rfl <;> omega
  go_enter Tryd.func46, Tryd.ntmps46
  go_wp2_with fail
  go_loop [1] (fun v => ∃ (off len c : Nat) (l : List Nat), v = .slice (some ⟨g, off, none⟩) len c ∧ len ≤ c ∧ c ≤ cap ∧ len ≤ n ∧ SubR w g off len l ∧ valB l = valB L) (fun v => lenOf v)
  case atStart => exact ⟨0, n, cap, L, rfl, hcap, Nat.le_refl _, Nat.le_refl _, hsub, rfl⟩
  case round =>
    obtain ⟨off, len1, c, l, rfl, hc1, hc2, hln, hs, hv⟩ := hrel
    cases l with
    | nil =>
      have hz : len1 = 0 := hs.size.symm
      have E := hid (show exactP (valB L) low = some 0 by rw [← hv]; show exactP 0 low = some 0; unfold exactP; rw [if_pos rfl])
      subst hz
      clear hs hv
      go_wp2_with fail
      refine wp_loop_rounds 1 ?_
      rw [rounds_succ]
      go_wp2_with fail
      go_ret2
      exact ⟨by rw [E.out]; exact ret_ii (Int.add_zero sg).symm rfl, rfl⟩
    | cons b t =>
      have hl1 : t.length + 1 = len1 := hs.size
      have s0 := hs.cell 0 (by omega)
      rw [Nat.add_zero] at s0
      have s0' : w.cell? ⟨g, off, none⟩ = some (.int .i64 ((b : Nat) : Int)) := s0
      have hb1 := hs.bit b (by simp)
      clear s0
      by_cases hb : b = 0
      · subst hb
        have HS := hid hs.tail
        have HV := hid (show valB t = valB L by rw [← hv, valB_nought])
        have hlen : (0 : Int) < (len1 : Int) := by omega
        clear hs hv
        by_cases hc : c = 1
        · have ht : t = [] := List.eq_nil_of_length_eq_zero (by omega)
          have h11 : len1 = 1 := by omega
          subst hc h11
          go_wp2_with fail
          go_round
          case rel => exact ⟨off, 0, 0, [], by first | rfl | simp, by omega, by omega, by omega, ⟨rfl, by simp, fun j hj => by omega⟩, by rw [← HV.out, ht]⟩
          case measure => simp [lenOf]
        · go_wp2_with fail
          go_round
          case rel => exact ⟨off + 1, len1 - 1, c - 1, t, by first | rfl | simp, by omega, by omega, by omega, HS.out, HV.out⟩
          case measure => simp [lenOf]; omega
      · have hb' : b = 1 := by omega
        subst hb'
        have HS := hid hs
        have HV := hid (show exactP (valB (1 :: t)) low = exactP (valB L) low by rw [hv])
        have hlen : (0 : Int) < (len1 : Int) := by omega
        clear hs hv hb hb1
        go_wp2_with fail
        go_loop [1, 2] (fun v lv => ∃ (len : Nat) (low2 : Int) (t2 : List Nat), v = .slice (some ⟨g, off, none⟩) len c ∧ lv = .int .i64 low2 ∧ low ≤ low2 ∧ low2 ≤ low + (len1 : Int) - len ∧ len ≤ len1 ∧ SubR w g off len (1 :: t2) ∧ exactP (valB (1 :: t2)) low2 = exactP (valB L) low) (fun v _ => lenOf v)
        case atStart => exact ⟨len1, low, t, rfl, rfl, by omega, by omega, Nat.le_refl _, HS.out, HV.out⟩
        case round =>
          obtain ⟨len, low2, t2, rfl, rfl, lw0, lw1, lw2, hs2, he⟩ := hrel
          have hl2 : t2.length + 1 = len := hs2.size
          have hsl := hs2.cell (len - 1) (by omega)
          obtain ⟨l3, bl, hl3⟩ : ∃ l3 bl, 1 :: t2 = l3 ++ [bl] := ⟨_, _, (List.dropLast_concat_getLast (by simp)).symm⟩
          have hl3l : l3.length = len - 1 := by
            have := congrArg List.length hl3
            simp only [List.length_cons, List.length_append, List.length_nil] at this
            omega
          have hgl : (1 :: t2).getD (len - 1) 0 = bl := by rw [hl3, ← hl3l]; simp [List.getD_eq_getElem?_getD]
          rw [hgl] at hsl
          have hadd : off + (len - 1) = off + (len - 1) := rfl
          have hbl := hs2.bit bl (by rw [hl3]; simp)
          have hpos : (0 : Int) < (len : Int) := by omega
          have hidx : ((len : Int) - 1).toNat = len - 1 := by omega
          have HS2 := hid hs2
          have HEE := hid he
          clear hs2 he hadd hgl
          by_cases hb0 : bl = 0
          · subst hb0
            cases l3 with
            | nil =>
              have h31 : (1 : Nat) :: t2 = [0] := hl3
              injection h31 with h32 _
              exact absurd h32 (by decide)
            | cons x l4 =>
              have hx : x = 1 := by
                have h31 : (1 : Nat) :: t2 = x :: (l4 ++ [0]) := hl3
                injection h31 with h32 _
                exact h32.symm
              subst hx
              have hnew := hid (show SubR w g off (len - 1) (1 :: l4) by
                have := HS2.out
                rw [hl3] at this
                exact this.init)
              have hval := hid (show exactP (valB (1 :: l4)) (low2 + 1) = exactP (valB L) low by
                rw [← HEE.out, hl3, valB_snoc, Nat.add_zero, exact_half])
              have ll4 : 1 < len := by simp only [List.length_cons] at hl3l; omega
              have lb : low2 + 1 ≤ 300000 := by omega
              have lb0 : -300000 ≤ low2 := by omega
              clear hl3 hl3l
              go_wp2_with fail
              go_round
              case rel => exact ⟨len - 1, low2 + 1, l4, by go_num, by go_num, by omega, by omega, by omega, hnew.out, hval.out⟩
              case measure => simp [lenOf]; omega
          · have hb1 : bl = 1 := by omega
            subst hb1
            have hodd : valB (1 :: t2) % 2 = 1 := by rw [hl3, valB_snoc]; omega
            have hlog := (valB_log t2 (fun x hx => HS2.out.bit x (by simp [hx]))).2
            obtain ⟨T1, T2⟩ := exact_tail (valB (1 :: t2)) len low2 hodd (by omega)
            have HE := hid (show exactP (valB (1 :: t2)) low2 = exactP (valB L) low from HEE.out)
            have ll : (len : Int) ≤ 300 := by omega
            have lb : low2 ≤ 300000 := by omega
            have lb0 : -300000 ≤ low2 := by omega
            clear hb0 hbl hl3 hl3l hodd hlog HEE
            obtain ⟨high, hhigh⟩ : ∃ high, low2 + (len : Int) - 1 = high := ⟨_, rfl⟩
            rw [hhigh] at T1 T2
            by_cases hx : 53 < len ∨ 1023 < high ∨ low2 < -1074
            · have E := hid (show exactP (valB L) low = none by rw [← HE.out]; exact T1 hx)
              clear T1 T2
              have hx2 : 53 < (len : Int) ∨ ¬ 53 < (len : Int) ∧ 1023 < high ∨ ¬ 53 < (len : Int) ∧ ¬ 1023 < high ∧ low2 < -1074 := by omega
              clear hx
              rcases hx2 with hx | ⟨hx, hx3⟩ | ⟨hx, hx3, hx4⟩
              · go_wp2_with fail
                go_ret2
                exact ⟨by rw [E.out]; rfl, rfl⟩
              · go_wp2_with fail
                go_ret2
                exact ⟨by rw [E.out]; rfl, rfl⟩
              · go_wp2_with fail
                go_ret2
                exact ⟨by rw [E.out]; rfl, rfl⟩
            · obtain ⟨q1, q2, q3, q4⟩ := T2 hx
              have hx1 : ¬ 53 < (len : Int) := by omega
              have hx3 : ¬ 1023 < high := by omega
              have hx4 : ¬ low2 < -1074 := by omega
              obtain ⟨least, hleast⟩ : ∃ least, leastI high = least := ⟨_, rfl⟩
              rw [hleast] at q1 q2 q3 q4
              have LE := hid hleast
              obtain ⟨N, hNN⟩ : ∃ N, valB (1 :: t2) = N := ⟨_, rfl⟩
              have HNN := hid hNN
              rw [hNN] at q2 q3 q4 HE
              obtain ⟨K, hK⟩ : ∃ K, (low2 - least).toNat = K := ⟨_, rfl⟩
              rw [hK] at q2 q3 q4
              have KD := hid (show low2 - (K : Int) = least ∧ -1074 ≤ low2 ∧ low2 ≤ 1023 + 300 by
                have : (K : Int) = low2 - least := by omega
                omega)
              have KB := hid q2
              have T3 := hid q3
              have T4 := hid q4
              have hs2 := HS2.out
              generalize hl2e : (1 :: t2 : List Nat) = l2 at *
              clear T1 T2 q1 q2 q3 q4 hx hleast hNN hK hl2e HS2
              go_wp2_with fail
              go_loop [9, 10] (fun nv iv => ∃ k : Nat, k ≤ len ∧ iv = .int .i64 k ∧ nv = .int .u64 ((valB (l2.take k) : Nat) : Int)) (fun _ iv => len - (intOf iv).toNat)
              case atStart => exact ⟨0, Nat.zero_le _, rfl, rfl⟩
              case round =>
                obtain ⟨k, hk, rfl, rfl⟩ := hrel
                have hlt53 := valB_take_lt l2 hs2.bit k (by rw [hs2.size]; omega)
                by_cases hkl : k < len
                · have st := valB_take l2 k (by rw [hs2.size]; exact hkl)
                  have hcell := hs2.cell k hkl
                  have hb1 : l2.getD k 0 ≤ 1 := by
                    rw [List.getD_eq_getElem?_getD, List.getElem?_eq_getElem (by rw [hs2.size]; exact hkl)]
                    exact hs2.bit _ (List.getElem_mem _)
                  have HST := hid (show ((valB (l2.take (k + 1)) : Nat) : Int) = 2 * ((valB (l2.take k) : Nat) : Int) + ((l2.getD k 0 : Nat) : Int) by rw [st]; omega)
                  have b0 : (0 : Int) ≤ ((l2.getD k 0 : Nat) : Int) := by omega
                  have b1 : ((l2.getD k 0 : Nat) : Int) ≤ 1 := by omega
                  have v0 : (0 : Int) ≤ ((valB (l2.take k) : Nat) : Int) := by omega
                  have v1 : ((valB (l2.take k) : Nat) : Int) < 9007199254740992 := by omega
                  have HK := hid hkl
                  generalize ((l2.getD k 0 : Nat) : Int) = bb at *
                  generalize ((valB (l2.take k) : Nat) : Int) = vv at *
                  clear st hlt53 hb1
                  go_wp2_with fail
                  go_round
                  case rel => exact ⟨k + 1, HK.out, by go_num, by rw [HST.out]⟩
                  case measure => simp [intOf]; omega
                · have hkk : k = len := by omega
                  have hall : valB (l2.take k) = N := by rw [hkk, ← hs2.size, List.take_length]; exact HNN.out
                  rw [hall] at hlt53 ⊢
                  have hkl' : ¬ (k : Int) < (len : Int) := by omega
                  clear hkk hkl hall
                  by_cases hlc : high - 52 < -1074
                  · have hle : least = -1074 := by rw [← LE.out]; unfold leastI; rw [if_pos hlc]
                    subst hle
                    go_wp2_with fail
                    go_loop [2, 9] (fun lv nv => ∃ (k : Nat) (y : Int), k ≤ K ∧ lv = .int .i64 (low2 - (k : Int)) ∧ nv = .int .u64 y ∧ y = ((N * 2 ^ k : Nat) : Int)) (fun lv _ => (intOf lv - (-1074)).toNat)
                    case atStart => exact ⟨0, _, Nat.zero_le _, int_eq (by omega), rfl, by simp⟩
                    case round =>
                      obtain ⟨k, y, hk, rfl, rfl, hy⟩ := hrel
                      have HY := hid hy
                      have ylt : y < 9007199254740992 := by
                        have : N * 2 ^ k ≤ N * 2 ^ K := Nat.mul_le_mul_left _ (Nat.pow_le_pow_right (by decide) hk)
                        have := KB.out
                        omega
                      have y0 : 0 ≤ y := by omega
                      clear hy
                      by_cases hkK : k < K
                      · have hgt : (-1074) < low2 - (k : Int) := by have := KD.out; omega
                        have HN := hid (show ((N * 2 ^ (k + 1) : Nat) : Int) = 2 * y by rw [HY.out, Nat.pow_succ, ← Nat.mul_assoc]; omega)
                        have k100 : (k : Int) < 200000 := by have := KD.out; omega
                        have HK := hid hkK
                        clear hkK
                        go_wp2_with fail
                        go_round
                        case rel => exact ⟨k + 1, 2 * y, HK.out, by go_num, by go_num, HN.out.symm⟩
                        case measure => simp [intOf]; omega
                      · have hkk : k = K := by omega
                        have hle : ¬ (-1074) < low2 - (k : Int) := by have := KD.out; omega
                        have HYK := hid (show y = ((N * 2 ^ K : Nat) : Int) by rw [HY.out, hkk])
                        clear hkK hkk
                        by_cases hh : high < -1022
                        · have E := hid (show exactP (valB L) low = some y by rw [← HE.out, HYK.out]; exact T3.out (by omega))
                          have w1 : IntKind.u64.wrap (sg + y) = sg + y := by rw [IntKind.wrap_u64]; rcases hsg with rfl | rfl <;> omega
                          go_wp2_with fail
                          go_ret2
                          exact ⟨by rw [E.out]; rfl, rfl⟩
                        · obtain ⟨t1, t2⟩ := T4.out (by omega)
                          have E := hid (show exactP (valB L) low = some ((high + 1023) * 4503599627370496 + (y - 4503599627370496)) by rw [← HE.out, HYK.out]; exact t2)
                          have y52 : 4503599627370496 ≤ y := by have := HYK.out; omega
                          have w0 : IntKind.u64.wrap (high + 1023) = high + 1023 := by rw [IntKind.wrap_u64]; omega
                          have w1 : IntKind.u64.wrap ((high + 1023) * 4503599627370496) = (high + 1023) * 4503599627370496 := by rw [IntKind.wrap_u64]; omega
                          have w2 : IntKind.u64.wrap (sg + (high + 1023) * 4503599627370496) = sg + (high + 1023) * 4503599627370496 := by rw [IntKind.wrap_u64]; rcases hsg with rfl | rfl <;> omega
                          have w3 : IntKind.u64.wrap (sg + (high + 1023) * 4503599627370496 + (y - 4503599627370496)) = sg + ((high + 1023) * 4503599627370496 + (y - 4503599627370496)) := by rw [IntKind.wrap_u64]; rcases hsg with rfl | rfl <;> omega
                          clear t1 t2
                          go_wp2_with fail
                          go_ret2
                          exact ⟨by rw [E.out]; exact ret_ii rfl rfl, rfl⟩
                  · have hle : high - 52 = least := by rw [← LE.out]; unfold leastI; rw [if_neg hlc]
                    go_wp2_with fail
                    go_loop [2, 9] (fun lv nv => ∃ (k : Nat) (y : Int), k ≤ K ∧ lv = .int .i64 (low2 - (k : Int)) ∧ nv = .int .u64 y ∧ y = ((N * 2 ^ k : Nat) : Int)) (fun lv _ => (intOf lv - least).toNat)
                    case atStart => exact ⟨0, _, Nat.zero_le _, int_eq (by omega), rfl, by simp⟩
                    case round =>
                      obtain ⟨k, y, hk, rfl, rfl, hy⟩ := hrel
                      have HY := hid hy
                      have ylt : y < 9007199254740992 := by
                        have : N * 2 ^ k ≤ N * 2 ^ K := Nat.mul_le_mul_left _ (Nat.pow_le_pow_right (by decide) hk)
                        have := KB.out
                        omega
                      have y0 : 0 ≤ y := by omega
                      clear hy
                      by_cases hkK : k < K
                      · have hgt : least < low2 - (k : Int) := by have := KD.out; omega
                        have HN := hid (show ((N * 2 ^ (k + 1) : Nat) : Int) = 2 * y by rw [HY.out, Nat.pow_succ, ← Nat.mul_assoc]; omega)
                        have k100 : (k : Int) < 200000 := by have := KD.out; omega
                        have HK := hid hkK
                        clear hkK
                        go_wp2_with fail
                        go_round
                        case rel => exact ⟨k + 1, 2 * y, HK.out, by go_num, by go_num, HN.out.symm⟩
                        case measure => simp [intOf]; omega
                      · have hkk : k = K := by omega
                        have hle : ¬ least < low2 - (k : Int) := by have := KD.out; omega
                        have HYK := hid (show y = ((N * 2 ^ K : Nat) : Int) by rw [HY.out, hkk])
                        clear hkK hkk
                        by_cases hh : high < -1022
                        · have E := hid (show exactP (valB L) low = some y by rw [← HE.out, HYK.out]; exact T3.out (by omega))
                          have w1 : IntKind.u64.wrap (sg + y) = sg + y := by rw [IntKind.wrap_u64]; rcases hsg with rfl | rfl <;> omega
                          go_wp2_with fail
                          go_ret2
                          exact ⟨by rw [E.out]; rfl, rfl⟩
                        · obtain ⟨t1, t2⟩ := T4.out (by omega)
                          have E := hid (show exactP (valB L) low = some ((high + 1023) * 4503599627370496 + (y - 4503599627370496)) by rw [← HE.out, HYK.out]; exact t2)
                          have y52 : 4503599627370496 ≤ y := by have := HYK.out; omega
                          have w0 : IntKind.u64.wrap (high + 1023) = high + 1023 := by rw [IntKind.wrap_u64]; omega
                          have w1 : IntKind.u64.wrap ((high + 1023) * 4503599627370496) = (high + 1023) * 4503599627370496 := by rw [IntKind.wrap_u64]; omega
                          have w2 : IntKind.u64.wrap (sg + (high + 1023) * 4503599627370496) = sg + (high + 1023) * 4503599627370496 := by rw [IntKind.wrap_u64]; rcases hsg with rfl | rfl <;> omega
                          have w3 : IntKind.u64.wrap (sg + (high + 1023) * 4503599627370496 + (y - 4503599627370496)) = sg + ((high + 1023) * 4503599627370496 + (y - 4503599627370496)) := by rw [IntKind.wrap_u64]; rcases hsg with rfl | rfl <;> omega
                          clear t1 t2
                          go_wp2_with fail
                          go_ret2
                          exact ⟨by rw [E.out]; exact ret_ii rfl rfl, rfl⟩
end Go.Proofs.YtdoojooepkdlhaaDoor.W
