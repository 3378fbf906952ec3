/- The contract of the reference's ToText: it returns the text of every pattern that is one; nothing that was there has turned. -/
import Derived.Test.YtjkabijejhmhkaaRef
import Derived.Laws.BytesArg
import Derived.Laws.IdiomStrings
namespace Go.Proofs.Ytjkabijejhmhkaa.W
open Go.ChangeShapes Go.WideShapes Go.RowKit

theorem decN_mod (k j x : Nat) (h : k ≤ j) : decN k (x % 256 ^ j) = decN k x := by
  induction k generalizing x j with
  | zero => rfl
  | succ k ih =>
    obtain ⟨i, rfl⟩ : ∃ i, j = i + 1 := ⟨j - 1, by omega⟩
    simp only [decN]
    have e1 : x % 256 ^ (i + 1) % 256 = x % 256 := by
      rw [Nat.pow_succ, Nat.mul_comm, Nat.mod_mul_right_mod]
    have e2 : x % 256 ^ (i + 1) / 256 = x / 256 % 256 ^ i := by
      rw [Nat.pow_succ, Nat.mul_comm, Nat.mod_mul_right_div_self]
    rw [e1, e2, ih i (x / 256) (by omega)]

theorem Try.info8 : (Try.prog.info? 5).map (fun i => (i.zero, i.size, i.bytes)) = some (some (.int .u8 0), 1, 1) := by kernel_rfl
/-- a row of bytes as cells -/
def bytesV (l : List UInt8) : List Value := l.map fun b => Value.int .u8 (b.toNat : Int)

theorem bytesV_snoc (j : Nat) (l b : Int) (l0 : 0 ≤ l) (hb : b = l / 2 ^ (8 * j)) : bytesV (decN (j + 1) l.toNat) = bytesV (decN j l.toNat) ++ [.int .u8 (b % 256)] := by
  rw [decN_snoc]
  unfold bytesV
  rw [List.map_append, List.map_cons, List.map_nil]
  obtain ⟨m, rfl⟩ := Int.eq_ofNat_of_zero_le l0
  have e : (((UInt8.ofNat ((m : Int).toNat / 256 ^ j % 256)).toNat : Nat) : Int) = b % 256 := by
    rw [hb, ← pow8]
    simp
  rw [e]
theorem bytesV_length (j m : Nat) : (bytesV (decN j m)).length = j := by simp [bytesV, decN_length]
theorem ownsRow_empty (w : World) (mm : Nat) : ((w.drewN mm).alloc (Obj.cells #[] 5)).ownsRow w.heap.size 5 1 (Value.slice (some { block := w.heap.size, off := 0 }) 0 0) 0 (bytesV (decN 0 0)) :=
  World.ownsRow_made (w := w.drewN mm) #[] 0 (Nat.le_refl _) (by unfold maxLen; omega) rfl
theorem conv_own {w : World} {base : Nat} {v : Value} {n : Nat} (l : List UInt8) (h : w.ownsRow base 5 1 v n (bytesV l)) :
    (convert 49 9 v).run Try.prog w = .ok (.string ⟨l.toArray⟩) w := by
  have hn : n = l.length := by
    have := h.1
    simp [bytesV] at this
    omega
  subst hn
  have h2 := h.2
  rcases h2 with ⟨rfl, hz⟩ | ⟨g, cap, cur, rfl, _⟩
  · have : l = [] := List.eq_nil_of_length_eq_zero hz
    subst this
    exact run_convert_bytes_nil w 49 5 Try.underlying49 Try.underlying5 0 0 9 Try.underlying9
  · refine run_convert_bytes_back w 49 9 5 ⟨g, 0, none⟩ cap l Try.underlying49 Try.underlying5 Try.underlying9 ?_
    intro j hj
    exact h.cells rfl j _ (by simp [bytesV, List.getElem?_eq_getElem hj])
set_option maxHeartbeats 400000 in
theorem refToText_c (n : Int) (h0 : 0 ≤ n) (h1 : n < 18446744073709551616) (w : World) :
    Calls Try.prog 16 #[.int .u64 n] w fun e w' => e = .returned (.tuple #[.string (toTxt n), .bool (cls n == 5)]) ∧ Below w.heap.size w w' := by
  by_cases c : cls n = 5
  · obtain ⟨i1, i2, i3⟩ := cls_is5 n c
    have c' : (cls n == 5) = true := by simpa using c
    simp [txtOk] at i3
    obtain ⟨l, hl⟩ : ∃ l, n % 281474976710656 = l := ⟨_, rfl⟩
    obtain ⟨k, hk⟩ : ∃ k, l / 1099511627776 = k := ⟨_, rfl⟩
    have k0 : 0 ≤ k := by omega
    have k5 : k ≤ 5 := by omega
    have l0 : 0 ≤ l := by omega
    have l1 : l < 281474976710656 := by omega
    have H : Hid (toTxt n = ⟨(decN k.toNat l.toNat).toArray⟩) := by
      show toTxt n = ⟨(decN k.toNat l.toNat).toArray⟩
      have e : (n % 1099511627776).toNat = l.toNat % 256 ^ 5 := by
        have : (256 : Nat) ^ 5 = 1099511627776 := by decide
        rw [this]; omega
      simp [toTxt, c, hl, hk, e]
      rw [show (1099511627776 : Nat) = 256 ^ 5 from by decide, decN_mod _ _ _ (by omega)]
    clear i1 i2 i3
    have hk' : n % 281474976710656 / 1099511627776 = k := by rw [hl]; exact hk
    have HL := hid hl
    have HK := hid hk
    have g0 : 0 ≤ n % 281474976710656 := by omega
    have g1 : n % 281474976710656 < 281474976710656 := by omega
    clear hl hk
    obtain ⟨i0, hi, hz0, hz1, hz2⟩ := info_parts Try.info8
    go_enter Try.func16, Try.ntmps16
    go_wp2_with (first | (go_at_call 10; refine (refClass_c _ (by omega) (by omega) _).mono ?_; rintro e w' ⟨rfl, mm, rfl⟩))
    go_loopw [5, 6] (fun v i wr => ∃ j : Nat, (j : Int) ≤ k ∧ i = .int .i64 j ∧ wr.ownsRow w.heap.size 5 1 v j (bytesV (decN j l.toNat)) ∧ Below w.heap.size w wr) (fun _ i _ => k.toNat - (intOf i).toNat)
    case atStart => exact ⟨0, k0, rfl, ownsRow_empty w mm, (below_drewN (Below.refl _ _) _).alloc (Nat.le_refl _) _⟩
    case round =>
      obtain ⟨j, hj, rfl, hown, hnx⟩ := hrel
      by_cases hlt : (j : Int) < k
      · have e8 : IntKind.i64.wrap (8 * (j : Int)) = 8 * j := by rw [IntKind.wrap_i64]; omega
        have hp : ¬ (2 : Int) ^ (8 * j) = 0 := Int.ne_of_gt (Int.pow_pos (by decide))
        obtain ⟨b, hb⟩ : ∃ b, b = l / 2 ^ (8 * j) := ⟨_, rfl⟩
        have b0 : 0 ≤ b := by rw [hb]; exact Int.ediv_nonneg l0 (Int.le_of_lt (Int.pow_pos (by decide)))
        have b1 : b ≤ l := by rw [hb]; exact Int.ediv_le_self _ l0
        have e9 : (n % 281474976710656).tdiv (2 ^ (8 * j)) = b := by rw [hb, HL.out]; exact Int.tdiv_eq_ediv_of_nonneg l0
        have HB := hid hb
        clear hb
        go_wp2_with (first | (go_at_call 39; refine (power_i _ (by omega) (by omega) _).mono ?_; rintro e w' ⟨rfl, rfl⟩) | (at_builtin; refine wpList_append_own _ rfl _ _ 49 rfl w.heap.size 5 i0 (.int .u8 0) 1 1 Try.underlying49 hi hz0 hz1 hz2 rfl (by decide) _ _ _ rfl (hown.alloc _) ⟨_, 0, none⟩ 1 1 [.int .u8 (b % 256)] rfl rfl ?c1 ?c2 ?c3 ?c4 ?c5 ?_))
        case c1 =>
          intro j u hj
          match j, hj with
          | 0, hj => simp at hj; subst hj; simp [Addr.add]
        case c2 => intro u hu; simp at hu; subst hu; rfl
        case c3 => unfold maxLen; omega
        case c4 => omega
        case c5 => have := hnx.size; simp; omega
        · intro v' w1 hown' hgrow _
          have R1 := hid (bytesV_snoc j l b l0 HB.out)
          have R2 : Below w.heap.size w w1 := (hnx.alloc (by have := hnx.size; omega) _).grown hgrow (by have := hnx.size; simp; omega) (fun g hg => (hown.lt g hg).1)
          clear hgrow hown hnx
          go_wp2
          go_roundw
          case rel => exact ⟨j + 1, by omega, by go_num, by rw [R1.out]; exact hown', R2⟩
          case measure => simp [intOf]; omega
      · have hjk : j = k.toNat := by omega
        have HJ := hid hjk
        clear hjk
        have kc := conv_own _ hown
        clear hown
        go_wp2_with (first | (go_at_call 39; refine (power_i _ (by omega) (by omega) _).mono ?_; rintro e w' ⟨rfl, rfl⟩))
        go_ret2
        exact ⟨ret_sb (by rw [H.out, HJ.out]) c'.symm, hnx⟩
  · have H := hid (show toTxt n = ByteArray.empty by simp [toTxt, c])
    have d : (cls n == 5) = false := by simpa using c
    have d' : (cls n != 5) = true := by simpa using c
    go_enter Try.func16, Try.ntmps16
    go_wp2_with (first | (go_at_call 10; refine (refClass_c _ (by omega) (by omega) _).mono ?_; rintro e w' ⟨rfl, mm, rfl⟩))
    go_ret2
    exact ⟨ret_sb H.out.symm d.symm, below_drewN (Below.refl _ _) _⟩
end Go.Proofs.Ytjkabijejhmhkaa.W
