/- Contracts of package numtext: a digit set behind a value; hexadecimal digits read one by one. -/
import Derived.Test.YtdoojooepkdlhaaDoorR4
import Derived.Deep.RegionHeld3
namespace Go.Proofs.YtdoojooepkdlhaaDoor.W
open Go.ChangeShapes Go.WideShapes Go.RowKit

/-- one cell of a block, written -/
theorem set_at {w : World} {b k : Nat} {c : Array Value} (f : ∀ i, w.cell? ⟨b, i, none⟩ = c[i]?) (x : Value) (hk : k < c.size) (j : Nat) : (w.setCell ⟨b, k, none⟩ x).cell? ⟨b, j, none⟩ = (c.set k x hk)[j]? := by
  by_cases h : k = j
  · subst h
    have s0 : w.cell? ⟨b, k, none⟩ = some c[k] := by rw [f k, Array.getElem?_eq_getElem hk]
    rw [World.cell?_setCell_same (h := s0), Array.getElem?_set_self]
  · rw [World.cell?_setCell_other (h := by intro e; injection e with e1 e2; exact h e2), f j, Array.getElem?_set_ne _ h]
theorem or_digit (a d k : Nat) (hk : 4 ≤ k) (hd : d < 16) (ha : a % 2 ^ k = 0) (h : a < 18446744073709551616) : bits .or .u64 (a : Int) (d : Int) = ((a + d : Nat) : Int) := by
  have p : 2 ^ 4 ≤ 2 ^ k := Nat.pow_le_pow_right (by decide) hk
  rw [u64_or_nat _ _ (by omega) (by omega), nat_join k a d ha (by omega)]
set_option maxHeartbeats 400000 in
theorem push_core (b : Nat) (v z d p sh v1 v2 : Int) (wd : Bool) (w : World) (hcell : ∀ i, w.cell? ⟨b, i, none⟩ = #[Value.int .u64 v, .int .i64 p, .bool wd][i]?) (hfz : ∀ i, w.frozen? ⟨b, i, none⟩ = false)
    (z0 : 0 ≤ z) (z1 : z ≤ 100) (hsh : 4 * (z + 1) = sh) (hv0 : 0 ≤ v) (hv1 : v < 18446744073709551616) (h1 : IntKind.u64.wrap (v * 2 ^ sh.toNat) = v1) (h2 : bits .or .u64 v1 d = v2) (hw : v = 0 ∨ (0 < v ∧ (v.toNat.log2 : Int) + 1 + sh ≤ 64)) :
    Calls Tryd.prog 65 #[.pointer (some ⟨b, 0, none⟩), .int .i64 z, .int .u64 d] w fun e w' => e = .returned (.tuple #[]) ∧ w' = w.setCell ⟨b, 0, none⟩ (.int .u64 v2) := by
  have c0 := hcell 0
  have f0 := hfz 0
  simp at c0
  have e1 : IntKind.i64.wrap (4 * (z + 1)) = sh := by rw [IntKind.wrap_i64]; omega
  have s0 : ¬ sh < 0 := by omega
  rcases hw with h | ⟨hv, hl⟩
  · subst h
    rw [Int.zero_mul] at h1
    have e0 : v1 = 0 := by rw [← h1]; rfl
    subst e0
    clear h1
    go_enter Tryd.func65, Tryd.ntmps65
    go_wp2_with fail
    go_end0
    exact ⟨rfl, rfl⟩
  · have c := len64_c v hv hv1
    have n0 : ¬ v = 0 := by omega
    have n1 : ¬ 64 < (v.toNat.log2 : Int) + 1 + sh := by omega
    have n2 : IntKind.i64.wrap ((v.toNat.log2 : Int) + 1 + sh) = (v.toNat.log2 : Int) + 1 + sh := by rw [IntKind.wrap_i64]; omega
    have n3 : min sh.toNat 64 = sh.toNat := by omega
    generalize (v.toNat.log2 : Int) = g at *
    clear hl hv
    go_enter Tryd.func65, Tryd.ntmps65
    go_wp2_with (go_at_call 61; refine (c _).mono ?_; rintro e w' ⟨rfl, rfl⟩)
    go_end0
    exact ⟨rfl, rfl⟩
set_option maxHeartbeats 400000 in
theorem push_over (b : Nat) (v z d p sh : Int) (wd : Bool) (w : World) (hcell : ∀ i, w.cell? ⟨b, i, none⟩ = #[Value.int .u64 v, .int .i64 p, .bool wd][i]?) (hfz : ∀ i, w.frozen? ⟨b, i, none⟩ = false)
    (z0 : 0 ≤ z) (z1 : z ≤ 100) (hsh : 4 * (z + 1) = sh) (hv0 : 0 < v) (hv1 : v < 18446744073709551616) (hw : 64 < (v.toNat.log2 : Int) + 1 + sh) :
    Calls Tryd.prog 65 #[.pointer (some ⟨b, 0, none⟩), .int .i64 z, .int .u64 d] w fun e w' => e = .returned (.tuple #[]) ∧ w' = w.setCell ⟨b, 2, none⟩ (.bool true) := by
  have c0 := hcell 0
  have c2 := hcell 2
  have f2 := hfz 2
  simp at c0 c2
  have e1 : IntKind.i64.wrap (4 * (z + 1)) = sh := by rw [IntKind.wrap_i64]; omega
  have c := len64_c v hv0 hv1
  have lg : v.toNat.log2 ≤ 63 := by
    apply Nat.le_of_not_lt
    intro hh
    have : 2 ^ 64 ≤ 2 ^ v.toNat.log2 := Nat.pow_le_pow_right (by decide) hh
    have := (high_le (n := v.toNat) (by omega)).1
    omega
  have n0 : ¬ v = 0 := by omega
  have n2 : IntKind.i64.wrap ((v.toNat.log2 : Int) + 1 + sh) = (v.toNat.log2 : Int) + 1 + sh := by rw [IntKind.wrap_i64]; omega
  generalize (v.toNat.log2 : Int) = g at *
  clear lg
  go_enter Tryd.func65, Tryd.ntmps65
  go_wp2_with (go_at_call 61; refine (c _).mono ?_; rintro e w' ⟨rfl, rfl⟩)
  refine bodyPost_ret (results_none rfl _ _ _) rfl ?_
  exact ⟨rfl, rfl⟩
/-- a digit set behind the value: what it leaves -/
theorem push_c (b : Nat) (D : List UInt8) (v z : Nat) (c : UInt8) (d : Nat) (p : Int) (wd : Bool) (w : World) (hcell : ∀ i, w.cell? ⟨b, i, none⟩ = #[Value.int .u64 v, .int .i64 p, .bool wd][i]?) (hfz : ∀ i, w.frozen? ⟨b, i, none⟩ = false)
    (hD : Dig D v z wd) (hc : hexV c = d) (hd : d ≠ 0) (z1 : z ≤ 100) :
    Calls Tryd.prog 65 #[.pointer (some ⟨b, 0, none⟩), .int .i64 z, .int .u64 d] w fun e w' => e = .returned (.tuple #[]) ∧ ∃ (i : Nat) (x : Value) (v' : Nat) (wd' : Bool), w' = w.setCell ⟨b, i, none⟩ x ∧ (∀ j, w'.cell? ⟨b, j, none⟩ = #[Value.int .u64 v', .int .i64 p, .bool wd'][j]?) ∧ Dig (D ++ [c]) v' 0 wd' := by
  have hv := hD.1
  have d16 : d < 16 := by have := hexV_range c; omega
  by_cases hw : v = 0 ∨ v.log2 + 1 + 4 * (z + 1) ≤ 64
  · obtain ⟨f1, f2⟩ := fits_make v z d d16 hw
    refine (push_core b v z d p (4 * (z + 1)) ((v * 2 ^ (4 * (z + 1)) : Nat) : Int) ((v * 2 ^ (4 * (z + 1)) + d : Nat) : Int) wd w hcell hfz (by omega) (by omega) rfl (by omega) (by omega) ?_ ?_ ?_).mono ?_
    · have e : (4 * ((z : Int) + 1)).toNat = 4 * (z + 1) := by omega
      have e2 : (v : Int) * 2 ^ (4 * (z + 1)) = ((v * 2 ^ (4 * (z + 1)) : Nat) : Int) := by simp
      rw [e, e2, IntKind.wrap_u64]
      omega
    · exact or_digit _ d (4 * (z + 1)) (by omega) d16 (Nat.mul_mod_left _ _) (by omega)
    · rcases hw with h | h
      · exact Or.inl (by omega)
      · by_cases h0 : v = 0
        · exact Or.inl (by omega)
        · exact Or.inr ⟨by omega, by rw [Int.toNat_natCast]; omega⟩
    · rintro e w' ⟨rfl, rfl⟩
      exact ⟨rfl, 0, _, _, wd, rfl, set_at hcell _ (show 0 < 3 by decide), hD.fits c d hc hw⟩
  · refine (push_over b v z d p (4 * (z + 1)) wd w hcell hfz (by omega) (by omega) rfl (by omega) (by omega) (by rw [Int.toNat_natCast]; omega)).mono ?_
    rintro e w' ⟨rfl, rfl⟩
    exact ⟨rfl, 2, _, v, true, rfl, set_at hcell _ (show 2 < 3 by decide), hD.over c d hc hd (by omega) (by omega)⟩
end Go.Proofs.YtdoojooepkdlhaaDoor.W
