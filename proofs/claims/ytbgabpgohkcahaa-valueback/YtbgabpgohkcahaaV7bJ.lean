import Derived.Test.YtbgabpgohkcahaaV7aJ
import Derived.Test.YtbgabpgohkcahaaTxtJ
import Derived.Test.YtbgabpgohkcahaaBackJ
import Derived.Test.YtbgabpgohkcahaaHd1J
/- Package value: Box, of plain values. -/
namespace Go.Proofs.Ytbgabpgohkcahaa.W
open Go.ChangeShapes Go.WideShapes Go.RowKit Go.Shelf
set_option linter.unusedVariables false
theorem vright_c (kd i bi re : Int) (t : ByteArray) (h : PV kd i bi re t) (W : World) : Calls Try.prog 18 #[.agg #[.int .i64 kd, .int .i64 i, .int .u64 bi, .string t, .int .u64 re]] W fun e w' => e = .returned (.bool true) ∧ Below W.heap.size W w' := by
  rcases h with ⟨rfl, rfl, rfl, rfl, rfl⟩ | ⟨rfl, hi, rfl, rfl, rfl⟩ | ⟨rfl, rfl, rfl, rfl⟩ | ⟨rfl, rfl, rfl, rfl⟩ | ⟨rfl, rfl, rfl, rfl⟩
  · go_enter Try.func18, Try.ntmps18
    go_wp2
    go_ret
    exact ⟨rfl, ((Below.refl _ W).alloc (Nat.le_refl _) _).alloc (by simp) _⟩
  · rcases hi with rfl | rfl
    · go_enter Try.func18, Try.ntmps18
      go_wp2
      go_ret
      exact ⟨rfl, ((Below.refl _ W).alloc (Nat.le_refl _) _).alloc (by simp) _⟩
    · go_enter Try.func18, Try.ntmps18
      go_wp2
      go_ret
      exact ⟨rfl, ((Below.refl _ W).alloc (Nat.le_refl _) _).alloc (by simp) _⟩
  · go_enter Try.func18, Try.ntmps18
    go_wp2
    go_ret
    exact ⟨rfl, ((Below.refl _ W).alloc (Nat.le_refl _) _).alloc (by simp) _⟩
  · go_enter Try.func18, Try.ntmps18
    go_wp2
    go_ret
    exact ⟨rfl, ((Below.refl _ W).alloc (Nat.le_refl _) _).alloc (by simp) _⟩
  · go_enter Try.func18, Try.ntmps18
    go_wp2
    go_ret
    exact ⟨rfl, ((Below.refl _ W).alloc (Nat.le_refl _) _).alloc (by simp) _⟩
theorem boxInt_small (hp vr : Value) (i : Int) (h0 : -9223372036854775808 ≤ i) (h1 : i ≤ 9223372036854775807) (hs : smallB i = true) (W : World) : Calls Try.prog 21 #[hp, .int .i64 i, vr] W fun e w' => e = .returned (.tuple #[.int .u64 (intW i), .int .i64 0]) ∧ w' = W := by
  have cf := fromInt_c i h0 h1 W
  rw [hs] at cf
  go_enter Try.func21, Try.ntmps21
  go_wp2_with (go_at_call 40; (with_reducible refine cf.mono ?_); rintro e w' ⟨rfl, hw⟩; (have hw' := hw.symm); subst hw'; clear hw)
  go_ret2
  exact ⟨rfl, rfl⟩
theorem boxText_small (hp vr : Value) (t : ByteArray) (hs : t.size ≤ 5) (W : World) : Calls Try.prog 23 #[hp, .string t, vr] W fun e w' => e = .returned (.tuple #[.int .u64 (txtW t), .int .i64 0]) ∧ w' = W := by
  have cf := fromText_c t (by simp [maxLen]; omega) W
  rw [decide_eq_true hs] at cf
  have h1 : ¬ (t.size : Int) > 8388608 := by omega
  go_enter Try.func23, Try.ntmps23
  go_wp2_with (go_at_call 42; (with_reducible refine cf.mono ?_); rintro e w' ⟨rfl, hw⟩; (have hw' := hw.symm); subst hw'; clear hw)
  go_ret2
  exact ⟨rfl, rfl⟩
section
variable {W0 W W1 : World} {hb : Nat} {H : List (Option Hc)} {u : Nat}
theorem boxInt_big (q : Hs W0 W hb H u) (hB : Below W.heap.size W W1) (vr : Value) (rs : List Nat) (hr : WordsAt W1 vr rs) (i : Int) (h0 : -9223372036854775808 ≤ i) (h1 : i ≤ 9223372036854775807) (hs : smallB i = false) : Calls Try.prog 21 #[.pointer (some ⟨hb, 0, none⟩), .int .i64 i, vr] W1 (HsPost W0 hb (roomH H u (.num i) rs) u (.num i)) := by
  have cf := fromInt_c i h0 h1 W1
  rw [hs] at cf
  have cp := hs_num q hB i h0 (by omega) vr rs hr
  have ep : ∀ (e : Ending) (w : World), HsPost W0 hb (roomH H u (.num i) rs) u (.num i) e w → ∃ x y, e = .returned (.tuple #[.int .u64 x, .int .i64 y]) := by
    rintro e w (⟨_, rfl, _⟩ | ⟨_, rfl, _⟩) <;> exact ⟨_, _, rfl⟩
  go_enter Try.func21, Try.ntmps21
  go_wp2_with (first | (go_at_call 40; (with_reducible refine cf.mono ?_); rintro e w' ⟨rfl, hw⟩; (have hw' := hw.symm); subst hw'; clear hw) | (go_at_call 13; (with_reducible refine cp.mono ?_); intro e w2 hP; (obtain ⟨x, y, rfl⟩ := ep _ _ hP); clear cp))
  go_ret2
  exact hP
theorem hs_text (q : Hs W0 W hb H u) (hB : Below W.heap.size W W1) (t : ByteArray) (hl : t.size ≤ 8388608) (vr : Value) (rs : List Nat) (hr : WordsAt W1 vr rs) :
    Calls Try.prog 13 #[.pointer (some ⟨hb, 0, none⟩), .agg #[.int .i64 4, .bool false, .int .i64 0, .string t, .slice none 0 0, .slice none 0 0, .int .u64 0, .int .i64 0, .int .i64 0], vr] W1 (HsPost W0 hb (roomH H u (.text (strB t)) rs) u (.text (strB t))) := by
  have h2 := hB.size
  exact (put_text (q.2.below hB) (fun k e => by omega) t hl none none 0 0 vr rs hr).mono (fun e w' h => q.post hB h)
theorem boxText_big (q : Hs W0 W hb H u) (hB : Below W.heap.size W W1) (vr : Value) (rs : List Nat) (hr : WordsAt W1 vr rs) (t : ByteArray) (hl : t.size ≤ 8388608) (hs : ¬ t.size ≤ 5) : Calls Try.prog 23 #[.pointer (some ⟨hb, 0, none⟩), .string t, vr] W1 (HsPost W0 hb (roomH H u (.text (strB t)) rs) u (.text (strB t))) := by
  have cf := fromText_c t (by simp [maxLen]; omega) W1
  rw [decide_eq_false hs] at cf
  have h1 : ¬ (t.size : Int) > 8388608 := by omega
  have cp := hs_text q hB t hl vr rs hr
  have ep : ∀ (e : Ending) (w : World), HsPost W0 hb (roomH H u (.text (strB t)) rs) u (.text (strB t)) e w → ∃ x y, e = .returned (.tuple #[.int .u64 x, .int .i64 y]) := by
    rintro e w (⟨_, rfl, _⟩ | ⟨_, rfl, _⟩) <;> exact ⟨_, _, rfl⟩
  go_enter Try.func23, Try.ntmps23
  go_wp2_with (first | (go_at_call 42; (with_reducible refine cf.mono ?_); rintro e w' ⟨rfl, hw⟩; (have hw' := hw.symm); subst hw'; clear hw) | (go_at_call 13; (with_reducible refine cp.mono ?_); intro e w2 hP; (obtain ⟨x, y, rfl⟩ := ep _ _ hP); clear cp))
  go_ret2
  exact hP
end
end Go.Proofs.Ytbgabpgohkcahaa.W
