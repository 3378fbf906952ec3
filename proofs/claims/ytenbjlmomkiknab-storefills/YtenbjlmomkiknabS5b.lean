/- Package store: the small functions that only read. -/
import Derived.Test.YtenbjlmomkiknabS5a
import Derived.Test.YtenbjlmomkiknabPlain
namespace Go.Proofs.Ytenbjlmomkiknab.W
open Go.ChangeShapes Go.WideShapes Go.RowKit

/-- a length, rounded up -/
def up8 (n : Int) : Int := (n + 7) / 8 * 8
theorem and_not7 (n : Int) (h0 : 0 ≤ n) (h1 : n ≤ 2000000000) : bits .andNot .i64 n 7 = n / 8 * 8 := by
  obtain ⟨a, rfl⟩ := Int.eq_ofNat_of_zero_le h0
  show IntKind.i64.wrap ((BitVec.ofInt 64 (a : Int) &&& ~~~BitVec.ofInt 64 7).toNat : Int) = _
  have h7 : (BitVec.ofInt 64 7).toNat = 7 := by decide
  rw [BitVec.toNat_and, BitVec.toNat_not, ofInt_u64 a (by omega), h7]
  have e : (2 ^ 64 - 1 - 7 : Nat) = (2 ^ 61 - 1) * 2 ^ 3 := by decide
  rw [e, and_shift, Nat.and_two_pow_sub_one_eq_mod, Nat.mod_eq_of_lt (by omega), IntKind.wrap_i64]
  omega
theorem roundUp_c (n : Int) (w : World) (h0 : 0 ≤ n) (h1 : n ≤ 1000000000) : Calls Try.prog 51 #[.int .i64 n] w fun e w' => e = .returned (.int .i64 (up8 n)) ∧ w' = w := by
  have e : bits .andNot .i64 (n + 7) 7 = up8 n := and_not7 (n + 7) (by omega) (by omega)
  go_enter Try.func51, Try.ntmps51
  go_wp2
  go_ret
  exact ⟨by rw [← e]; rfl, rfl⟩
theorem number_c (n : Int) (w : World) (h0 : 0 ≤ n) (h1 : n ≤ 1000000000) : Calls Try.prog 53 #[.int .i64 n] w fun e w' => e = .returned (.int .i64 (n + 1)) ∧ w' = w := by
  go_enter Try.func53, Try.ntmps53
  go_wp2
  go_ret
  exact ⟨rfl, rfl⟩
theorem block_c (W : World) (sb : Nat) (vr vb vf : Value) (s : Sto) (h : Lay W sb vr vb vf s) (n : Nat) (b : Blk) (hb : s.get n = some b) (hlen : s.blks.length ≤ 1000000000) (B O : Nat) (hp : Pt sb vb n B O) :
    Calls Try.prog 59 #[.pointer (some ⟨sb, 0, none⟩), .int .i64 n] W fun e w' => e = .returned (.pointer (some ⟨B, O, none⟩)) ∧ w' = W := by
  rcases hp with ⟨rfl, rfl, rfl⟩ | ⟨hn, e, rfl⟩
  · go_enter Try.func59, Try.ntmps59
    go_wp2
    go_ret
    exact ⟨rfl, rfl⟩
  · unfold Sto.get at hb
    rw [if_neg hn] at hb
    have hi := (List.getElem?_eq_some_iff.1 hb).1
    obtain ⟨g, cap, rfl, _⟩ := own_slice h.blk (Nat.lt_of_le_of_lt (Nat.zero_le _) hi)
    simp [Value.ownBlock] at e
    subst e
    have c6 := h.cell 6
    simp [Sto.obj] at c6
    have hn0 : ((n : Int) == 0) = false := by simp; exact hn
    obtain ⟨k, rfl⟩ : ∃ k, n = k + 1 := ⟨n - 1, by omega⟩
    simp only [Nat.add_sub_cancel] at hi ⊢
    clear hb hn
    have h0 : (0 : Int) ≤ k := by omega
    have h1 : (k : Int) < s.blks.length := by omega
    go_enter Try.func59, Try.ntmps59
    go_wp2
    go_ret
    exact ⟨rfl, rfl⟩
theorem end_c (W : World) (B O : Nat) (p l : Int) (hp : W.cell? ⟨B, O + 1, none⟩ = some (.int .i64 p)) (hl : W.cell? ⟨B, O + 2, none⟩ = some (.int .i64 l)) (h0 : 0 ≤ l) (h1 : l ≤ 100000000) (h2 : 0 ≤ p) (h3 : p ≤ 10000000000000) :
    Calls Try.prog 60 #[.pointer (some ⟨B, O, none⟩)] W fun e w' => e = .returned (.int .i64 (p + up8 l)) ∧ ∃ m, w' = W.drewN m := by
  have e0 : 0 ≤ up8 l := by unfold up8; omega
  have e1 : up8 l ≤ 1000000000 := by unfold up8; omega
  go_enter Try.func60, Try.ntmps60
  go_wp2
  go_quiet ((go_at_call 51; exact Calls.quiet_of_same (roundUp_c _ _ h0 (by omega))))
  go_wp2
  go_ret
  exact ⟨rfl, _, rfl⟩
end Go.Proofs.Ytenbjlmomkiknab.W
