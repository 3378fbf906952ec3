/- Contracts of the reference: a hexadecimal digit, four bits behind a row, which pattern a row of bits is. -/
import Derived.Test.YtdoojooepkdlhaaDoorC4
namespace Go.Proofs.YtdoojooepkdlhaaDoor.W
open Go.ChangeShapes Go.WideShapes Go.RowKit

theorem hexd_hexV (c : UInt8) (h : 0 ≤ hexV c) : hexd (hexV c).toNat = c := by
  have all : ∀ n : Fin 256, 0 ≤ hexV (UInt8.ofNat n.val) → hexd (hexV (UInt8.ofNat n.val)).toNat = UInt8.ofNat n.val := by decide +kernel
  have := all ⟨c.toNat, c.toNat_lt⟩
  simp only [UInt8.ofNat_toNat] at this
  exact this h
theorem hexV_no (c : UInt8) (h : ∀ j, j < 16 → hexd j ≠ c) : hexV c = -1 := by
  obtain ⟨r1, r2⟩ := hexV_range c
  by_cases h0 : 0 ≤ hexV c
  · exact absurd (hexd_hexV c h0) (h _ (by omega))
  · omega
theorem chr_eq (c d : UInt8) : ((c.toNat : Int) == (d.toNat : Int)) = decide (c = d) := by
  rw [Bool.eq_iff_iff, beq_iff_eq, decide_eq_true_eq]
  constructor
  · intro e
    exact UInt8.toNat_inj.1 (by omega)
  · intro e; subst e; rfl
set_option maxHeartbeats 400000 in
theorem refHex_c (c : UInt8) (w : World) :
    Calls Tryd.prog 44 #[.int .u8 c.toNat] w fun e w' => e = .returned (.int .i64 (hexV c)) ∧ w' = w := by
  go_enter Tryd.func44, Tryd.ntmps44
  go_wp2_with fail
  go_loop [3] (fun i => ∃ k : Nat, k ≤ 16 ∧ i = .int .i64 k ∧ ∀ j, j < k → hexd j ≠ c) (fun i => 16 - (intOf i).toNat)
  case atStart => exact ⟨0, Nat.zero_le _, rfl, by intro j hj; omega⟩
  case round =>
    obtain ⟨k, hk, rfl, hn⟩ := hrel
    by_cases hlt : k < 16
    · have hx := hex_index k hlt
      have hlt' : (k : Int) < 16 := by omega
      have hq := chr_eq (hexd k) c
      by_cases hc : hexd k = c
      · have H := hid (show hexV c = k by rw [← hc]; exact hexV_hexd k hlt)
        rw [decide_eq_true hc] at hq
        generalize hexd k = c' at *
        clear hn hc
        go_wp2_with fail
        go_ret
        exact ⟨ret_int H.out.symm, rfl⟩
      · have H := hid (show ∀ j, j < k + 1 → hexd j ≠ c by
          intro j hj
          by_cases e : j = k
          · rw [e]; exact hc
          · exact hn j (by omega))
        rw [decide_eq_false hc] at hq
        generalize hexd k = c' at *
        clear hn hc
        go_wp2_with fail
        go_round
        case rel => exact ⟨k + 1, hlt, by go_num, H.out⟩
        case measure => simp [intOf]; omega
    · have hk16 : k = 16 := by omega
      subst hk16
      have H := hid (hexV_no c hn)
      clear hn
      go_wp2_with fail
      go_ret
      exact ⟨ret_int H.out.symm, rfl⟩
theorem Tryd.infoI : (Tryd.prog.info? 3).map (fun i => (i.zero, i.size, i.bytes)) = some (some (.int .i64 0), 1, 8) := by kernel_rfl
/-- a row of bits as cells -/
def bitsV (l : List Nat) : List Value := l.map fun b : Nat => Value.int .i64 (b : Int)
def nib (d : Nat) : List Nat := [d / 8, d / 4 % 2, d / 2 % 2, d % 2]
theorem nib_bits (d : Nat) (h : d < 16) : ∀ b ∈ nib d, b ≤ 1 := by
  intro b hb
  simp only [nib, List.mem_cons, List.not_mem_nil, or_false] at hb
  omega
set_option maxHeartbeats 400000 in
theorem refNibble_c (B : Nat) (v : Value) (n d : Nat) (L : List Nat) (w : World) (hown : w.ownsRow B 3 1 v n (bitsV L)) (hB : B ≤ w.heap.size) (hn : n ≤ 300) (hd : d < 16) :
    Calls Tryd.prog 45 #[v, .int .i64 d] w fun e w' => ∃ v', e = .returned v' ∧ w'.ownsRow B 3 1 v' (n + 4) (bitsV (L ++ nib d)) ∧ Below B w w' := by
  obtain ⟨i0, hi, hz0, hz1, hz2⟩ := info_parts Tryd.infoI
  have e1 : (d : Int) / 8 = ((d / 8 : Nat) : Int) := by omega
  have e2 : (d : Int) / 4 % 2 = ((d / 4 % 2 : Nat) : Int) := by omega
  have e3 : (d : Int) / 2 % 2 = ((d / 2 % 2 : Nat) : Int) := by omega
  have e4 : (d : Int) % 2 = ((d % 2 : Nat) : Int) := by omega
  have eL : bitsV (L ++ nib d) = bitsV L ++ [.int .i64 ((d / 8 : Nat) : Int), .int .i64 ((d / 4 % 2 : Nat) : Int), .int .i64 ((d / 2 % 2 : Nat) : Int), .int .i64 ((d % 2 : Nat) : Int)] := by unfold bitsV nib; rw [List.map_append]; rfl
  have HL := hid eL
  have d0 : (0 : Int) ≤ (d : Int) := by omega
  have d16 : (d : Int) < 16 := by omega
  generalize ((d / 8 : Nat) : Int) = x1 at *
  generalize ((d / 4 % 2 : Nat) : Int) = x2 at *
  generalize ((d / 2 % 2 : Nat) : Int) = x3 at *
  generalize ((d % 2 : Nat) : Int) = x4 at *
  clear eL
  go_enter Tryd.func45, Tryd.ntmps45
  go_wp2_with (first | (at_builtin; refine wpList_append_own _ rfl _ _ 63 rfl B 3 i0 (.int .i64 0) 1 8 Tryd.underlying63 hi hz0 hz1 hz2 rfl (by decide) _ _ _ rfl (hown.alloc _) ⟨_, 0, none⟩ 4 4 [.int .i64 x1, .int .i64 x2, .int .i64 x3, .int .i64 x4] rfl rfl ?c1 ?c2 ?c3 ?c4 ?c5 ?_))
  case c1 =>
    intro j u hj
    match j, hj with
    | 0, hj => simp at hj; subst hj; simp [Addr.add]
    | 1, hj => simp at hj; subst hj; simp [Addr.add]
    | 2, hj => simp at hj; subst hj; simp [Addr.add]
    | 3, hj => simp at hj; subst hj; simp [Addr.add]
  case c2 =>
    intro u hu
    simp at hu
    rcases hu with rfl | rfl | rfl | rfl <;> rfl
  case c3 => unfold maxLen; omega
  case c4 => omega
  case c5 => simp; omega
  · intro v' w1 hown' hgrow _
    have R2 : Below B w w1 := ((Below.refl B w).alloc hB _).grown hgrow (by simp; omega) (fun g hg => (hown.lt g hg).1)
    clear hgrow hown
    go_wp2
    go_ret
    exact ⟨v', rfl, by rw [HL.out]; exact hown', R2⟩
end Go.Proofs.YtdoojooepkdlhaaDoor.W
