import Derived.Laws.FloatArith
import Derived.Deep.Draws
import Derived.Laws.NewFold
import Derived.Test.YtfooijjfjmpigaaGreatDoorProg
import Derived.WalkKit
import Derived.WalkLawsBesides
import Derived.Laws.Externs
import Derived.Laws.BitsAllLaws
import Derived.KernelRfl
import Derived.Deep.QuietTactic
import Derived.BigQuiet
/- Plain facts on words of IEEE 754: what a word reads as, that what is written is no NaN, how two words compare. No Go in sight. -/
namespace Go.Proofs.YtfooijjfjmpigaaGreatDoor.W
open Ieee

/-- is a pattern a NaN? -/
def nanB (n : Int) : Bool := decide (9218868437227405312 < n % 9223372036854775808)
/-- the one NaN that is answered -/
def canon : Int := 9221120237041090560
/-- a pattern, with all NaNs made one -/
def fltW (n : Int) : Int := if nanB n = true then 9221120237041090560 else n

theorem D_sign : Ieee.double.signWeight = 9223372036854775808 := by decide
theorem D_bin : Ieee.double.binade = 4503599627370496 := by decide
theorem D_inf : Ieee.double.infRung = 9218868437227405312 := by decide
theorem D_least : Ieee.double.leastPlace = -1074 := by decide
theorem D_width : Ieee.double.width = 64 := by decide

theorem word_eq (s : Bool) (r : Nat) : Ieee.double.word s r = (if s then 9223372036854775808 else 0) + r := by
  unfold Format.word
  rw [D_sign]
  cases s <;> simp

theorem read_eq (x : Nat) : Ieee.double.read x =
    if x % 9223372036854775808 < 4503599627370496 then .number (x / 9223372036854775808 % 2 == 1) (x % 9223372036854775808) (-1074)
    else if x % 9223372036854775808 < 9218868437227405312 then
      .number (x / 9223372036854775808 % 2 == 1) (4503599627370496 + x % 9223372036854775808 % 4503599627370496) (-1074 + (x % 9223372036854775808 / 4503599627370496 - 1 : Nat))
    else if x % 9223372036854775808 = 9218868437227405312 then .infinity (x / 9223372036854775808 % 2 == 1)
    else .nan (x / 9223372036854775808 % 2 == 1) (x % 9223372036854775808 - 9218868437227405312) := by
  unfold Format.read
  simp only [D_sign, D_bin, D_inf, D_least]

theorem nan_read (x : Nat) : (Ieee.double.read x).isNaN = nanB x := by
  rw [read_eq, nanB]
  have e : ((x : Int) % 9223372036854775808) = ((x % 9223372036854775808 : Nat) : Int) := by omega
  rw [e]
  split
  · rename_i h; simp [Datum.isNaN]; omega
  · split
    · rename_i h; simp [Datum.isNaN]; omega
    · split
      · rename_i h; simp [Datum.isNaN]; omega
      · rename_i h1 h2 h3; simp [Datum.isNaN]; omega

theorem order_self (d : Datum) : (d.order d != some .eq) = d.isNaN := by
  cases d with
  | number s m i => simp [Datum.order, Datum.isNaN, compare, compareOfLessAndEq]
  | infinity s => cases s <;> rfl
  | nan s t => rfl

theorem isNaN_eq (x : Nat) : (Ieee.double.order x x != some .eq) = nanB x := by
  rw [← nan_read]; exact order_self _

/-- a word whose rung is not above infinity's is no NaN -/
theorem word_plain (s : Bool) (r : Nat) (h : r ≤ 9218868437227405312) : nanB (Ieee.double.word s r : Nat) = false := by
  rw [word_eq, nanB]
  cases s <;> simp <;> omega
theorem nearest_plain (s : Bool) (m : Nat) (p : Int) : nanB (Ieee.double.nearest s m p : Nat) = false := by
  unfold Format.nearest
  split
  · exact word_plain _ _ (by omega)
  · rw [D_inf]; exact word_plain _ _ (Nat.min_le_right ..)
theorem write_plain (d : Datum) (h : d.isNaN = false) : nanB (Ieee.double.write d : Nat) = false := by
  cases d with
  | number s m p => exact nearest_plain s m p
  | infinity s => exact word_plain s _ (by rw [D_inf]; omega)
  | nan s t => exact absurd h (by simp [Datum.isNaN])
theorem write_lt (d : Datum) : Ieee.double.write d < 18446744073709551616 := by
  have := Ieee.double.write_lt d
  rwa [D_width] at this

theorem sum_plain {a b d : Datum} (h : a.sum b = some d) : d.isNaN = false := by
  cases a <;> cases b <;> simp [Datum.sum] at h <;> (try (rcases h with ⟨_, h⟩)) <;> (try subst h) <;> rfl
theorem product_plain {a b d : Datum} (h : a.product b = some d) : d.isNaN = false := by
  cases a <;> cases b <;> simp [Datum.product] at h <;> (try (rcases h with ⟨_, h⟩)) <;> (try subst h) <;> rfl
theorem quotient_plain {k : Nat} {a b d : Datum} (h : a.quotient k b = some d) : d.isNaN = false := by
  cases a with
  | nan s t => simp [Datum.quotient] at h
  | infinity s => cases b <;> simp [Datum.quotient] at h <;> subst h <;> rfl
  | number s m i =>
    cases b with
    | nan t u => simp [Datum.quotient] at h
    | infinity t => simp [Datum.quotient] at h; subst h; rfl
    | number t n j =>
      simp only [Datum.quotient] at h
      split at h
      · split at h
        · cases h
        · cases h; rfl
      · cases h; rfl

theorem floatBits_plain {op : BinOp} {x y r : Nat} (h : floatBits op .f64 x y = some r) : nanB (r : Int) = false := by
  unfold floatBits at h
  have go : ∀ o : Option Datum, (∀ d, o = some d → d.isNaN = false) → o.map Ieee.double.write = some r → nanB (r : Int) = false := by
    intro o ho hm
    cases o with
    | none => cases hm
    | some d => cases hm; exact write_plain d (ho d rfl)
  split at h
  · exact go _ (fun d => sum_plain) h
  · exact go _ (fun d => sum_plain) h
  · exact go _ (fun d => product_plain) h
  · exact go _ (fun d => quotient_plain) h
  · cases h
theorem floatBits_lt {op : BinOp} {x y r : Nat} (h : floatBits op .f64 x y = some r) : r < 18446744073709551616 := by
  have := floatBits_wf h
  simpa [Lit.wf] using this

/-- a NaN that the tape names is a NaN -/
theorem nanBits_nan (x y t : Nat) : nanB ((Question.nanBits .f64 x y).cut t : Nat) = true := by
  show decide (9218868437227405312 < (((t % 2) * 9223372036854775808 + 9218868437227405312 + 1 + (t / 2) % 4503599627370495 : Nat) : Int) % 9223372036854775808) = true
  rw [decide_eq_true_eq]
  have h1 : t / 2 % 4503599627370495 < 4503599627370495 := Nat.mod_lt _ (by omega)
  have h2 : t % 2 = 0 ∨ t % 2 = 1 := by omega
  generalize t / 2 % 4503599627370495 = q at *
  generalize t % 2 = s at *
  rcases h2 with rfl | rfl <;> omega
theorem nanBits_lt (x y t : Nat) : (Question.nanBits .f64 x y).cut t < 18446744073709551616 := by
  show (t % 2) * 9223372036854775808 + 9218868437227405312 + 1 + (t / 2) % 4503599627370495 < _
  omega

/-- what an operation on two patterns answers -/
def opI (op : BinOp) (a b : Int) : Int := match floatBits op .f64 a.toNat b.toNat with | some r => (r : Int) | none => 9221120237041090560
theorem opI_range (op : BinOp) (a b : Int) : 0 ≤ opI op a b ∧ opI op a b < 18446744073709551616 := by
  unfold opI
  split
  · rename_i r h; have := floatBits_lt h; omega
  · omega
theorem opI_plain (op : BinOp) (a b : Int) : nanB (opI op a b) = true → opI op a b = 9221120237041090560 := by
  unfold opI
  split
  · rename_i r h; intro hn; rw [floatBits_plain h] at hn; cases hn
  · intro _; rfl

/-! ### the walk's laws -/
/-- what '+', '-', '*', '/' on doubles give: the bits, or a NaN that the tape names -/
def fres (op : BinOp) (x y : Nat) (w : World) : Nat :=
  match floatBits op .f64 x y with | some r => r | none => (Question.nanBits .f64 x y).cut (w.tape w.drawn (.nanBits .f64 x y))
def fdraw (op : BinOp) (x y : Nat) : Nat := match floatBits op .f64 x y with | some _ => 0 | none => 1
theorem fres_lt (op : BinOp) (x y : Nat) (w : World) : fres op x y w < 18446744073709551616 := by
  unfold fres
  split
  · rename_i r h; exact floatBits_lt h
  · exact nanBits_lt ..
theorem fltW_fres (op : BinOp) (a b : Int) (w : World) : fltW (fres op a.toNat b.toNat w : Nat) = opI op a b := by
  unfold fres opI
  split
  · rename_i r h; rw [fltW, floatBits_plain h]; simp
  · rw [fltW, nanBits_nan]; simp

theorem run_fop (P : Program) (op : BinOp) (hop : op = .add ∨ op = .sub ∨ op = .mul ∨ op = .quo) (t : TypeId) (x y : Nat) (w : World) :
    (binOp op t (.float .f64 x) (.float .f64 y)).run P w = .ok (.float .f64 (fres op x y w)) (w.drewN (fdraw op x y)) := by
  cases h : floatBits op .f64 x y with
  | some r =>
    rw [run_float_arith w op t .f64 x y r h]
    simp [fres, fdraw, h, World.drewN_zero]
  | none =>
    have e1 : fres op x y w = (Question.nanBits .f64 x y).cut (w.tape w.drawn (.nanBits .f64 x y)) := by simp [fres, h]
    have e2 : fdraw op x y = 1 := by simp [fdraw, h]
    rw [e1, e2]
    rcases hop with rfl | rfl | rfl | rfl <;> simp only [floatBits] at h <;> simp [binOp, Op.floatArith, h, World.drew_is_drewN, Question.forced]

/-! ### Floor, and widths -/
theorem nan_write (s : Bool) (t : Nat) (h : t % 4503599627370496 ≠ 0) : nanB (Ieee.double.write (.nan s t) : Nat) = true := by
  have e : Ieee.double.write (.nan s t) = Ieee.double.word s (Ieee.double.infRung + t % Ieee.double.binade) := rfl
  rw [e, word_eq, D_inf, D_bin, nanB, decide_eq_true_eq]
  have : t % 4503599627370496 < 4503599627370496 := Nat.mod_lt _ (by omega)
  cases s <;> simp <;> omega
theorem quiet_mod (t : Nat) : Ieee.double.quiet t % 4503599627370496 ≠ 0 := by
  have e : Ieee.double.quiet t = t ||| 2 ^ 51 := rfl
  rw [e]
  intro h
  have h1 : ((t ||| 2 ^ 51) % 2 ^ 52).testBit 51 = true := by
    rw [Nat.testBit_mod_two_pow, Nat.testBit_or, Nat.testBit_two_pow_self]
    simp
  rw [show (2 : Nat) ^ 52 = 4503599627370496 from by decide, h] at h1
  simp at h1

/-- what Floor answers -/
def floorI (a : Int) : Int := if nanB a = true then 9221120237041090560 else (Ieee.double.write ((Ieee.double.read a.toNat).integral .down) : Nat)
/-- what the machine's own floor hands back: of a NaN that is not quiet the tape says which NaN -/
def flres (P : Program) (x : Nat) (w : World) : Nat :=
  match (Extern.MathFloor.toIntegral "math.archFloor" .down #[.float .f64 x]).run P w with
  | .ok (.float _ r) _ => r
  | _ => 0
def fldraw (x : Nat) : Nat :=
  match Ieee.double.read x with
  | .nan _ t => if Ieee.double.quiet t = t then 0 else 1
  | _ => 0
theorem integral_plain (way : Toward) (d : Datum) : (d.integral way).isNaN = d.isNaN := by cases d <;> rfl
/-- the entry's text, with the question that it asks of a NaN that is not quiet -/
theorem floor_text : ∃ q : Question, (∀ x, Extern.MathFloor.toIntegral "math.archFloor" .down #[.float .f64 x] =
      (match Ieee.double.read x with
      | .nan s t =>
        if Ieee.double.quiet t = t then pure (.float .f64 x) else do
        let kept ← choose q
        pure (.float .f64 (if kept == 1 then x else Ieee.double.write (.nan s (Ieee.double.quiet t))))
      | d => pure (.float .f64 (Ieee.double.write (d.integral .down))) : Sem Value)) ∧ q.forced = false :=
  ⟨_, fun _ => rfl, rfl⟩
theorem floor_run (P : Program) (x : Nat) (w : World) : ∃ r, (Extern.MathFloor.toIntegral "math.archFloor" .down #[.float .f64 x]).run P w = .ok (.float .f64 r) (w.drewN (fldraw x)) ∧
    (x < 18446744073709551616 → r < 18446744073709551616) ∧ (nanB (x : Nat) = true → nanB (r : Nat) = true) ∧ (nanB (x : Nat) = false → r = Ieee.double.write ((Ieee.double.read x).integral .down)) := by
  have hn := nan_read x
  obtain ⟨q, hq, hf⟩ := floor_text
  rw [hq x]
  unfold fldraw
  cases hd : Ieee.double.read x with
  | number s m i =>
    rw [hd] at hn
    refine ⟨Ieee.double.write ((Datum.number s m i).integral .down), by simp [World.drewN_zero], fun _ => write_lt _, fun h => ?_, fun _ => rfl⟩
    rw [← hn] at h; cases h
  | infinity s =>
    rw [hd] at hn
    refine ⟨Ieee.double.write ((Datum.infinity s).integral .down), by simp [World.drewN_zero], fun _ => write_lt _, fun h => ?_, fun _ => rfl⟩
    rw [← hn] at h; cases h
  | nan s t =>
    rw [hd] at hn
    have hn' : nanB (x : Nat) = true := by rw [← hn]; rfl
    have h2 : nanB (Ieee.double.write (.nan s (Ieee.double.quiet t)) : Nat) = true := nan_write s _ (quiet_mod t)
    by_cases h : Ieee.double.quiet t = t
    · refine ⟨x, by simp [h, World.drewN_zero], fun hx => hx, fun _ => hn', fun g => ?_⟩
      rw [hn'] at g; cases g
    · refine ⟨if q.cut (w.tape w.drawn q) == 1 then x else Ieee.double.write (.nan s (Ieee.double.quiet t)), by simp [h, hf, World.drew_is_drewN], ?_, ?_, fun g => ?_⟩
      · intro hx; split
        · exact hx
        · exact write_lt _
      · intro _; split
        · exact hn'
        · exact h2
      · rw [hn'] at g; cases g
theorem flres_eq (P : Program) (x : Nat) (w : World) : (Extern.MathFloor.toIntegral "math.archFloor" .down #[.float .f64 x]).run P w = .ok (.float .f64 (flres P x w)) (w.drewN (fldraw x)) ∧
    (x < 18446744073709551616 → flres P x w < 18446744073709551616) ∧ (nanB (x : Nat) = true → nanB (flres P x w : Nat) = true) ∧ (nanB (x : Nat) = false → flres P x w = Ieee.double.write ((Ieee.double.read x).integral .down)) := by
  obtain ⟨r, h1, h2, h3, h4⟩ := floor_run P x w
  have e : flres P x w = r := by unfold flres; rw [h1]
  rw [e]
  exact ⟨h1, h2, h3, h4⟩
theorem fltW_flres (P : Program) (a : Int) (h0 : 0 ≤ a) (w : World) : fltW (flres P a.toNat w : Nat) = floorI a := by
  obtain ⟨-, -, h3, h4⟩ := flres_eq P a.toNat w
  rw [Int.toNat_of_nonneg h0] at h3 h4
  unfold floorI
  cases hn : nanB a with
  | true => rw [fltW, h3 hn, if_pos rfl, if_pos rfl]
  | false =>
    rw [h4 hn]
    have hp : nanB (Ieee.double.write ((Ieee.double.read a.toNat).integral .down) : Nat) = false := write_plain _ (by rw [integral_plain, nan_read, Int.toNat_of_nonneg h0, hn])
    rw [fltW, hp]
theorem flres_lt (P : Program) (x : Nat) (hx : x < 18446744073709551616) (w : World) : flres P x w < 18446744073709551616 := (flres_eq P x w).2.1 hx
theorem floorI_range (a : Int) : 0 ≤ floorI a ∧ floorI a < 18446744073709551616 := by
  unfold floorI
  split
  · omega
  · have := write_lt ((Ieee.double.read a.toNat).integral .down); omega
theorem run_floor (P : Program) (x : Nat) (w : World) :
    (Extern.MathFloor.toIntegral "math.archFloor" .down #[.float .f64 x]).run P w = .ok (.float .f64 (flres P x w)) (w.drewN (fldraw x)) := (flres_eq P x w).1

/-- what Wide answers -/
def wideI (n : Int) : Int := if (Ieee.single.read n.toNat).isNaN = true then 9221120237041090560 else (Ieee.double.write (Ieee.single.read n.toNat) : Nat)
def wres (x : Nat) (w : World) : Nat :=
  match Ieee.single.read x with
  | .nan _ _ => (Question.nanConv .f64 x).cut (w.tape w.drawn (.nanConv .f64 x))
  | d => Ieee.double.write d
def wdraw (x : Nat) : Nat := if (Ieee.single.read x).isNaN = true then 1 else 0
theorem wideI_range (a : Int) : 0 ≤ wideI a ∧ wideI a < 18446744073709551616 := by
  unfold wideI
  split
  · omega
  · have := write_lt (Ieee.single.read a.toNat); omega
theorem nanConv_nan (x t : Nat) : nanB ((Question.nanConv .f64 x).cut t : Nat) = true := nanBits_nan x x t
theorem nanConv_lt (x t : Nat) : (Question.nanConv .f64 x).cut t < 18446744073709551616 := nanBits_lt x x t
theorem wres_lt (x : Nat) (w : World) : wres x w < 18446744073709551616 := by
  unfold wres
  split
  · exact nanConv_lt ..
  · exact write_lt _
theorem fltW_wres (n : Int) (w : World) : fltW (wres n.toNat w : Nat) = wideI n := by
  unfold wres wideI
  cases Ieee.single.read n.toNat with
  | nan s t => simp [fltW, nanConv_nan, Datum.isNaN]
  | number s m i => simp [fltW, write_plain (.number s m i) rfl, Datum.isNaN]
  | infinity s => simp [fltW, write_plain (.infinity s) rfl, Datum.isNaN]
/-- a word of a wider format has room for every number of the narrower one -/
theorem run_wide (P : Program) (src dst : TypeId) (x : Nat) (hs : (P.underlying src).isSome = true) (hd : P.underlying dst = some (.float .f64))
    (hfin : ∀ s m i, Ieee.single.read x = .number s m i → (Ieee.double.read (Ieee.double.write (.number s m i))).isInfinity = false) (w : World) :
    (convert src dst (.float .f32 x)).run P w = .ok (.float .f64 (wres x w)) (w.drewN (wdraw x)) := by
  obtain ⟨u, hs'⟩ := Option.isSome_iff_exists.1 hs
  have e : (convert src dst (.float .f32 x)).run P w = (Conv.floatToFloat .f32 x .f64).run P w := by
    cases u <;> simp [convert, run_underlying hs', run_underlying hd]
  rw [e]
  unfold wres wdraw
  have e2 : Conv.floatToFloat .f32 x .f64 = (match Ieee.single.read x with
    | .nan _ _ => do pure (.float .f64 (← choose (.nanConv .f64 x)))
    | .infinity s => pure (.float .f64 (Ieee.double.write (.infinity s)))
    | .number s m e =>
      if (Ieee.double.read (Ieee.double.write (.number s m e))).isInfinity then do pure (.float .f64 (← choose (.floatToFloat x)))
      else pure (.float .f64 (Ieee.double.write (.number s m e))) : Sem Value) := rfl
  rw [e2]
  cases hr : Ieee.single.read x with
  | number s m i => simp [World.drewN_zero, Datum.isNaN, hfin s m i hr]
  | infinity s => simp [World.drewN_zero, Datum.isNaN]
  | nan s t => simp [World.drew_is_drewN, Question.forced, Datum.isNaN]
end Go.Proofs.YtfooijjfjmpigaaGreatDoor.W
/- Contracts of the small functions beneath package soft and its reference: doubles by their patterns, and back. -/
namespace Go.Proofs.YtfooijjfjmpigaaGreatDoor.W
open Go.ChangeShapes Go.WideShapes Go.RowKit

theorem ret_bool {a b : Bool} (h : a = b) : Ending.returned (.bool a) = .returned (.bool b) := by rw [h]
theorem ret_int {k : IntKind} {a b : Int} (h : a = b) : Ending.returned (.int k a) = .returned (.int k b) := by rw [h]
theorem ret_float {k : FloatKind} {a b : Nat} (h : a = b) : Ending.returned (.float k a) = .returned (.float k b) := by rw [h]
theorem ret_ii {k l : IntKind} {a a' b b' : Int} (h : a = a') (g : b = b') : Ending.returned (.tuple #[.int k a, .int l b]) = .returned (.tuple #[.int k a', .int l b']) := by rw [h, g]
theorem hid {p : Prop} (h : p) : Hid p := h

theorem nan_ref1 (n : Int) (h : n / 4503599627370496 % 2048 = 2047) : (n % 4503599627370496 != 0) = nanB n := by
  unfold nanB
  rw [Bool.eq_iff_iff]
  simp only [bne_iff_ne, ne_eq, decide_eq_true_eq]
  omega
theorem nan_ref2 (n : Int) (h : ¬ n / 4503599627370496 % 2048 = 2047) : false = nanB n := by
  unfold nanB
  rw [Bool.eq_iff_iff]
  simp only [Bool.false_eq_true, decide_eq_true_eq, false_iff]
  omega
end Go.Proofs.YtfooijjfjmpigaaGreatDoor.W
/- Contracts of package soft and of its reference: sums, differences, products, quotients, signs, floors, orders; one plain function says what both answer. -/
namespace Go.Proofs.YtfooijjfjmpigaaGreatDoor.W
open Go.ChangeShapes Go.WideShapes Go.RowKit

theorem xor_sign (a : Int) (h0 : 0 ≤ a) (h1 : a < 18446744073709551616) : bits .xor .u64 a 9223372036854775808 = if a < 9223372036854775808 then a + 9223372036854775808 else a - 9223372036854775808 := by
  rw [u64_xor a 9223372036854775808 h0 h1 (by decide) (by decide)]
  have key : ∀ x : Nat, x < 2 ^ 63 → x ^^^ 2 ^ 63 = 2 ^ 63 + x := by
    intro x hx
    rw [← nat_join 63 (2 ^ 63) x (by decide) hx]
    apply Nat.eq_of_testBit_eq
    intro i
    rw [Nat.testBit_xor, Nat.testBit_or, Nat.testBit_two_pow]
    by_cases h : 63 = i
    · subst h; rw [Nat.testBit_lt_two_pow hx]; simp
    · simp [h]
  have e : (9223372036854775808 : Int).toNat = 2 ^ 63 := by decide
  rw [e]
  by_cases h : a < 9223372036854775808
  · rw [if_pos h, key _ (by omega)]; omega
  · rw [if_neg h]
    have e2 : a.toNat = (a - 9223372036854775808).toNat ^^^ 2 ^ 63 := by rw [key _ (by omega)]; omega
    rw [e2, Nat.xor_assoc, Nat.xor_self, Nat.xor_zero]
    omega

/-- what Neg answers -/
def negI (a : Int) : Int := if nanB a = true then 9221120237041090560 else if a < 9223372036854775808 then a + 9223372036854775808 else a - 9223372036854775808
theorem nan_turn (a : Int) : nanB (if a < 9223372036854775808 then a + 9223372036854775808 else a - 9223372036854775808) = nanB a := by
  unfold nanB
  split <;> congr 1 <;> (apply propext) <;> constructor <;> intro h <;> omega
theorem negI_range (a : Int) (h0 : 0 ≤ a) (h1 : a < 18446744073709551616) : 0 ≤ negI a ∧ negI a < 18446744073709551616 := by
  unfold negI; split <;> (try split) <;> omega
/-- what FromInt answers -/
def fromI (i : Int) : Int := (floatOfInt .f64 i : Nat)
theorem fromI_range (i : Int) : 0 ≤ fromI i ∧ fromI i < 18446744073709551616 := by
  have : floatOfInt .f64 i < 18446744073709551616 := write_lt (.number (i < 0) i.natAbs 0)
  unfold fromI; omega
theorem fromI_plain (i : Int) : fltW (floatOfInt .f64 i : Nat) = fromI i := by
  have : nanB (floatOfInt .f64 i : Nat) = false := nearest_plain _ _ _
  simp [fltW, this, fromI]
def lessI (a b : Int) : Bool := Ieee.double.order a.toNat b.toNat == some .lt
def equalI (a b : Int) : Bool := Ieee.double.order a.toNat b.toNat == some .eq
def lessEqI (a b : Int) : Bool := Ieee.double.order a.toNat b.toNat == some .lt || Ieee.double.order a.toNat b.toNat == some .eq

theorem run_same (src dst : TypeId) (x : Nat) (hs : (Tryz.prog.underlying src).isSome = true) (hd : Tryz.prog.underlying dst = some (.float .f64)) (w : World) :
    (convert src dst (.float .f64 x)).run Tryz.prog w = .ok (.float .f64 x) w := run_convert_float_float w src dst .f64 .f64 x x hs hd (by simp [floatToFloatBits])
/-- does a double's whole part fit into 64 bits? -/
def fitsB (a : Int) : Bool := (Ieee.double.order a.toNat 14114281232179134464 == some .gt || Ieee.double.order a.toNat 14114281232179134464 == some .eq) && Ieee.double.order a.toNat 4890909195324358656 == some .lt
end Go.Proofs.YtfooijjfjmpigaaGreatDoor.W
/- Plain facts on words of IEEE 754: a number is written as its nearest word whatever its spelling; what a format has is written as it was read; words compare by the exact numbers that they are. -/
namespace Go.Proofs.YtfooijjfjmpigaaGreatDoor.W
open Ieee

/-- a quotient rounded to the nearest whole number, between two the even one -/
def cutE (n g : Nat) : Nat := n / g + (if g < 2 * (n % g) ∨ (g = 2 * (n % g) ∧ n / g % 2 = 1) then 1 else 0)

theorem gap_low (n d : Nat) (h : n.log2 + 2 < d) : n < 2 ^ (n.log2 + 2) ∧ 2 * n < 2 ^ (n.log2 + 2) ∧ 2 ^ (n.log2 + 2) < 2 ^ d := by
  have h1 : n < 2 ^ (n.log2 + 1) := Nat.lt_log2_self
  have h2 : 2 ^ (n.log2 + 2) = 2 * 2 ^ (n.log2 + 1) := by rw [show n.log2 + 2 = n.log2 + 1 + 1 from rfl, Nat.pow_succ]; omega
  have h3 : 2 ^ (n.log2 + 2) < 2 ^ d := Nat.pow_lt_pow_right (by omega) h
  omega

theorem toNat_if {b : Bool} {p : Prop} [Decidable p] (h : b = true ↔ p) : b.toNat = if p then 1 else 0 := by
  cases b <;> by_cases hp : p <;> simp_all
theorem cut_even (s : Bool) (n d : Nat) : Toward.even.cut s n d = cutE n (2 ^ d) := by
  unfold Toward.cut cutE
  simp only [Nat.one_shiftLeft]
  by_cases h : d ≤ n.log2 + 2
  · rw [Nat.min_eq_left h]
    congr 1
    generalize 2 ^ d = g
    exact toNat_if (by simp)
  · rw [Nat.min_eq_right (by omega)]
    obtain ⟨h1, h2, h3⟩ := gap_low n d (by omega)
    have h4 : n < 2 ^ d := by omega
    rw [Nat.div_eq_of_lt h1, Nat.mod_eq_of_lt h1, Nat.div_eq_of_lt h4, Nat.mod_eq_of_lt h4, if_neg (by omega)]
    have e : decide (2 ^ (n.log2 + 2) < 2 * n) = false := by simp; omega
    simp [e]
theorem cut_down (s : Bool) (n d : Nat) : Toward.down.cut s n d = n / 2 ^ d + (if s = true ∧ n % 2 ^ d ≠ 0 then 1 else 0) := by
  unfold Toward.cut
  simp only [Nat.one_shiftLeft]
  by_cases h : d ≤ n.log2 + 2
  · rw [Nat.min_eq_left h]
    congr 1
    cases s <;> by_cases h1 : n % 2 ^ d = 0 <;> simp [h1]
  · rw [Nat.min_eq_right (by omega)]
    obtain ⟨h1, h2, h3⟩ := gap_low n d (by omega)
    rw [Nat.div_eq_of_lt h1, Nat.mod_eq_of_lt h1, Nat.div_eq_of_lt (by omega), Nat.mod_eq_of_lt (by omega)]
    cases s <;> by_cases h1 : n = 0 <;> simp [h1]
theorem cut_zero (s : Bool) (n d : Nat) : Toward.zero.cut s n d = n / 2 ^ d := by
  unfold Toward.cut
  simp only [Nat.one_shiftLeft]
  by_cases h : d ≤ n.log2 + 2
  · rw [Nat.min_eq_left h]; simp
  · rw [Nat.min_eq_right (by omega)]
    obtain ⟨h1, h2, h3⟩ := gap_low n d (by omega)
    rw [Nat.div_eq_of_lt h1, Nat.div_eq_of_lt (by omega)]
    simp

theorem cutE_mul (n g c : Nat) (hc : 0 < c) : cutE (n * c) (g * c) = cutE n g := by
  unfold cutE
  rw [Nat.mul_div_mul_right n g hc, Nat.mul_mod_mul_right]
  congr 1
  have e : 2 * (n % g * c) = 2 * (n % g) * c := by rw [Nat.mul_assoc]
  rw [e]
  have h1 : (g * c < 2 * (n % g) * c) = (g < 2 * (n % g)) := propext (Nat.mul_lt_mul_right hc)
  have h2 : (g * c = 2 * (n % g) * c) = (g = 2 * (n % g)) := propext (Nat.mul_left_inj (by omega))
  simp only [h1, h2]
theorem cutE_one (n : Nat) : cutE n 1 = n := by
  unfold cutE
  simp [Nat.mod_one]
theorem cutE_move (m a b a' b' : Nat) (h : a' + b = a + b') : cutE (m * 2 ^ a') (2 ^ b') = cutE (m * 2 ^ a) (2 ^ b) := by
  rw [← cutE_mul (m * 2 ^ a') (2 ^ b') (2 ^ b) (Nat.two_pow_pos _), ← cutE_mul (m * 2 ^ a) (2 ^ b) (2 ^ b') (Nat.two_pow_pos _)]
  rw [Nat.mul_assoc, Nat.mul_assoc, ← Nat.pow_add, ← Nat.pow_add, ← Nat.pow_add, ← Nat.pow_add, h, Nat.add_comm b' b]

theorem log2_shift (m k : Nat) (h : m ≠ 0) : (m * 2 ^ k).log2 = m.log2 + k := by
  induction k with
  | zero => simp
  | succ k ih =>
    rw [Nat.pow_succ, ← Nat.mul_assoc, Nat.mul_comm _ 2, Nat.log2_two_mul (Nat.mul_ne_zero h (Nat.ne_of_gt (Nat.two_pow_pos k))), ih]
    omega

theorem nearest_shift (f : Format) (s : Bool) (m k : Nat) (p : Int) : f.nearest s (m * 2 ^ k) (p - k) = f.nearest s m p := by
  unfold Format.nearest
  by_cases h : m = 0
  · subst h; simp
  · have h' : m * 2 ^ k ≠ 0 := Nat.mul_ne_zero h (Nat.ne_of_gt (Nat.two_pow_pos k))
    rw [if_neg h', if_neg h, log2_shift m k h]
    have e : p - (k : Int) + ((m.log2 + k : Nat) : Int) - f.fractionBits = p + (m.log2 : Nat) - f.fractionBits := by omega
    simp only [e]
    generalize max (p + (m.log2 : Nat) - f.fractionBits) f.leastPlace = L
    rw [cut_even, cut_even, Nat.shiftLeft_eq, Nat.shiftLeft_eq, Nat.mul_assoc, ← Nat.pow_add]
    rw [cutE_move m (p - L).toNat (L - p).toNat (k + (p - k - L).toNat) (L - (p - k)).toNat (by omega)]
theorem nearest_same (f : Format) (s : Bool) (m m' : Nat) (p p' b : Int) (h1 : b ≤ p) (h2 : b ≤ p') (h : m * 2 ^ (p - b).toNat = m' * 2 ^ (p' - b).toNat) :
    f.nearest s m p = f.nearest s m' p' := by
  rw [← nearest_shift f s m (p - b).toNat p, ← nearest_shift f s m' (p' - b).toNat p', h]
  congr 1
  omega

/-! ### what a word reads as, written again -/
theorem read_number {x : Nat} {s : Bool} {m : Nat} {p : Int} (hx : x < 18446744073709551616) (h : Ieee.double.read x = .number s m p) :
    m < 9007199254740992 ∧ -1074 ≤ p ∧ p ≤ 971 ∧ (4503599627370496 ≤ m ∨ p = -1074) ∧ x = (if s then 9223372036854775808 else 0) + ((p + 1074).toNat * 4503599627370496 + m) := by
  rw [read_eq] at h
  have hs : (if (x / 9223372036854775808 % 2 == 1) = true then 9223372036854775808 else 0) = x / 9223372036854775808 * 9223372036854775808 := by
    by_cases g : x / 9223372036854775808 % 2 = 1
    · simp [g]; omega
    · simp [g]; omega
  split at h
  · cases h
    refine ⟨by omega, by omega, by omega, Or.inr rfl, ?_⟩
    rw [hs]; omega
  · split at h
    · cases h
      refine ⟨by omega, by omega, by omega, Or.inl (by omega), ?_⟩
      rw [hs]; omega
    · split at h <;> cases h

theorem write_read {x : Nat} {s : Bool} {m : Nat} {p : Int} (hx : x < 18446744073709551616) (h : Ieee.double.read x = .number s m p) : Ieee.double.nearest s m p = x := by
  obtain ⟨h1, h2, h3, h4, h5⟩ := read_number hx h
  unfold Format.nearest
  by_cases h0 : m = 0
  · subst h0
    rw [if_pos rfl, word_eq, h5]
    have : p = -1074 := by omega
    subst this
    simp
  · rw [if_neg h0]
    have hl : m.log2 ≤ 52 := by
      have : m.log2 < 53 := (Nat.log2_lt h0).2 (by omega)
      omega
    have hL : max (p + (m.log2 : Nat) - ((Ieee.double.fractionBits : Nat) : Int)) Ieee.double.leastPlace = p := by
      rw [D_least]
      show max (p + (m.log2 : Nat) - 52) (-1074) = p
      rcases h4 with h4 | h4
      · have : 52 ≤ m.log2 := (Nat.le_log2 h0).2 (by omega)
        omega
      · omega
    simp only [hL]
    rw [cut_even]
    simp only [Int.sub_self, Int.toNat_zero, Nat.shiftLeft_zero, Nat.pow_zero, cutE_one, D_least, D_bin, D_inf, word_eq]
    rw [h5, show p - -1074 = p + 1074 from by omega, Nat.min_eq_left (by omega)]
theorem write_inf {x : Nat} {s : Bool} (hx : x < 18446744073709551616) (h : Ieee.double.read x = .infinity s) : Ieee.double.write (.infinity s) = x := by
  have e : Ieee.double.write (.infinity s) = Ieee.double.word s Ieee.double.infRung := rfl
  rw [e, word_eq, D_inf]
  rw [read_eq] at h
  split at h
  · cases h
  · split at h
    · cases h
    · split at h
      · rename_i h1 h2 h3
        cases h
        by_cases g : x / 9223372036854775808 % 2 = 1
        · simp [g]; omega
        · simp [g]; omega
      · cases h

/-- a number of at most 53 digits, within the format's places, is read as it was written -/
theorem read_nearest (s : Bool) (m : Nat) (p : Int) (hm : m < 9007199254740992) (h1 : -1074 ≤ p) (h2 : p ≤ 971) :
    ∃ m' p', Ieee.double.read (Ieee.double.nearest s m p) = .number s m' p' ∧ -1074 ≤ p' ∧ p' ≤ p ∧ m' = m * 2 ^ (p - p').toNat := by
  have hsg : ∀ r, r < 9223372036854775808 → (((if s = true then 9223372036854775808 else 0) + r) / 9223372036854775808 % 2 == 1) = s ∧ ((if s = true then 9223372036854775808 else 0) + r) % 9223372036854775808 = r := by
    intro r hr
    cases s
    · simp; omega
    · simp; omega
  unfold Format.nearest
  by_cases h0 : m = 0
  · subst h0
    rw [if_pos rfl, word_eq, read_eq, (hsg 0 (by omega)).1, (hsg 0 (by omega)).2, if_pos (by omega)]
    exact ⟨0, -1074, rfl, by omega, by omega, by simp⟩
  · rw [if_neg h0]
    have hl : m.log2 ≤ 52 := by
      have : m.log2 < 53 := (Nat.log2_lt h0).2 (by omega)
      omega
    have hlo : 2 ^ m.log2 ≤ m := Nat.log2_self_le h0
    have hhi : m < 2 ^ (m.log2 + 1) := Nat.lt_log2_self
    have eL : max (p + (m.log2 : Nat) - ((Ieee.double.fractionBits : Nat) : Int)) Ieee.double.leastPlace = max (p + (m.log2 : Nat) - 52) (-1074) := by rw [D_least]; rfl
    simp only [eL]
    generalize hL : max (p + (m.log2 : Nat) - 52) (-1074) = L
    have hLp : L ≤ p := by omega
    have hL1 : -1074 ≤ L := by omega
    rw [cut_even, show (L - p).toNat = 0 from by omega, Nat.pow_zero, cutE_one, Nat.shiftLeft_eq, D_least, D_bin, D_inf, word_eq]
    -- K: the digits that are kept
    have hK2 : m * 2 ^ (p - L).toNat < 9007199254740992 := by
      have a1 : m * 2 ^ (p - L).toNat < 2 ^ (m.log2 + 1) * 2 ^ (p - L).toNat := Nat.mul_lt_mul_of_pos_right hhi (Nat.two_pow_pos _)
      rw [← Nat.pow_add] at a1
      have a2 : 2 ^ (m.log2 + 1 + (p - L).toNat) ≤ 2 ^ 53 := Nat.pow_le_pow_right (by omega) (by omega)
      omega
    have hK1 : L = -1074 ∨ 4503599627370496 ≤ m * 2 ^ (p - L).toNat := by
      by_cases g : L = -1074
      · exact Or.inl g
      · right
        have a1 : 2 ^ m.log2 * 2 ^ (p - L).toNat ≤ m * 2 ^ (p - L).toNat := Nat.mul_le_mul_right _ hlo
        rw [← Nat.pow_add, show m.log2 + (p - L).toNat = 52 from by omega] at a1
        omega
    generalize hK : m * 2 ^ (p - L).toNat = K at *
    have hmin : min ((L - -1074).toNat * 4503599627370496 + K) 9218868437227405312 = (L + 1074).toNat * 4503599627370496 + K := by
      rw [show L - -1074 = L + 1074 from by omega]
      exact Nat.min_eq_left (by omega)
    rw [hmin, read_eq, (hsg _ (by omega)).1, (hsg _ (by omega)).2]
    split
    · rename_i g
      refine ⟨_, _, rfl, by omega, by omega, ?_⟩
      have : L = -1074 := by omega
      subst this
      rw [hK]; omega
    · rename_i g
      rw [if_pos (by omega)]
      refine ⟨_, _, rfl, by omega, by omega, ?_⟩
      have e1 : (-1074 + ((((L + 1074).toNat * 4503599627370496 + K) / 4503599627370496 - 1 : Nat) : Int)) = L := by omega
      rw [e1, hK]
      omega

/-! ### words compare by the exact numbers -/
/-- beyond every finite double, in units of the least number's place -/
def bigOf (k : Nat) : Nat := 2 ^ k
theorem bigOf_pos (k : Nat) : 0 < bigOf k := Nat.two_pow_pos k
theorem bigOf_le {k n : Nat} (h : k ≤ n) : 2 ^ k ≤ bigOf n := Nat.pow_le_pow_right (by omega) h
def big : Nat := bigOf 2200
theorem big_pos : 0 < big := bigOf_pos 2200
theorem big_le {k : Nat} (h : k ≤ 2200) : 2 ^ k ≤ big := bigOf_le h
/-- the exact number of a datum, in units of the least number's place; infinities beyond all -/
def key : Datum → Int
  | .number s m p => signed s m (p + 1074).toNat
  | .infinity s => if s then -(big : Int) else (big : Int)
  | .nan _ _ => 0

theorem signed_eq (s : Bool) (m k : Nat) : signed s m k = (if s then -1 else 1) * ((m * 2 ^ k : Nat) : Int) := by
  unfold signed
  rw [Nat.shiftLeft_eq]
  cases s <;> simp
theorem signed_add (s : Bool) (m a c : Nat) : signed s m (a + c) = signed s m a * ((2 ^ c : Nat) : Int) := by
  rw [signed_eq, signed_eq, Int.mul_assoc, ← Int.natCast_mul, Nat.mul_assoc, ← Nat.pow_add]
theorem compare_mul (x y c : Int) (hc : 0 < c) : compare (x * c) (y * c) = compare x y := by
  have h1 : (x * c < y * c) = (x < y) := propext ⟨fun h => Int.lt_of_mul_lt_mul_right h (Int.le_of_lt hc), fun h => Int.mul_lt_mul_of_pos_right h hc⟩
  have h2 : (x * c = y * c) = (x = y) := propext ⟨fun h => Int.eq_of_mul_eq_mul_right (Int.ne_of_gt hc) h, fun h => by rw [h]⟩
  simp only [compare, compareOfLessAndEq, h1, h2]
theorem key_bound {x : Nat} {s : Bool} {m : Nat} {p : Int} (hx : x < 18446744073709551616) (h : Ieee.double.read x = .number s m p) :
    -(big : Int) < signed s m (p + 1074).toNat ∧ signed s m (p + 1074).toNat < (big : Int) := by
  obtain ⟨h1, h2, h3, -, -⟩ := read_number hx h
  have a1 : m * 2 ^ (p + 1074).toNat < 2 ^ 53 * 2 ^ (p + 1074).toNat := Nat.mul_lt_mul_of_pos_right (by omega) (Nat.two_pow_pos _)
  rw [← Nat.pow_add] at a1
  have a2 : 2 ^ (53 + (p + 1074).toNat) ≤ big := big_le (by omega)
  rw [signed_eq]
  generalize big = B at *
  generalize m * 2 ^ (p + 1074).toNat = V at *
  cases s <;> simp <;> omega
theorem order_key {x y : Nat} (hx : x < 18446744073709551616) (hy : y < 18446744073709551616) (nx : (Ieee.double.read x).isNaN = false) (ny : (Ieee.double.read y).isNaN = false) :
    Ieee.double.order x y = some (compare (key (Ieee.double.read x)) (key (Ieee.double.read y))) := by
  unfold Format.order
  cases ex : Ieee.double.read x with
  | nan s t => rw [ex] at nx; cases nx
  | infinity s =>
    cases ey : Ieee.double.read y with
    | nan s t => rw [ey] at ny; cases ny
    | infinity t =>
      have hB := big_pos
      simp only [Datum.order, key]
      generalize big = B at *
      cases s <;> cases t <;> simp [compare, compareOfLessAndEq] <;> (try omega)
      all_goals (repeat' split) <;> first | rfl | omega
    | number t n j =>
      obtain ⟨k1, k2⟩ := key_bound hy ey
      simp only [Datum.order, key]
      generalize big = B at *
      cases s
      · simp only [compare, compareOfLessAndEq, Bool.false_eq_true, if_false]
        rw [if_neg (by omega), if_neg (by omega)]
      · simp only [compare, compareOfLessAndEq, if_true]
        rw [if_pos (by omega)]
  | number s m i =>
    obtain ⟨k1, k2⟩ := key_bound hx ex
    obtain ⟨-, hi, -, -, -⟩ := read_number hx ex
    cases ey : Ieee.double.read y with
    | nan s t => rw [ey] at ny; cases ny
    | infinity t =>
      simp only [Datum.order, key]
      generalize big = B at *
      cases t
      · simp only [compare, compareOfLessAndEq, Bool.false_eq_true, if_false]
        rw [if_pos (by omega)]
      · simp only [compare, compareOfLessAndEq, if_true]
        rw [if_neg (by omega), if_neg (by omega)]
    | number t n j =>
      obtain ⟨-, hj, -, -, -⟩ := read_number hy ey
      simp only [Datum.order, key]
      have e1 : (i + 1074).toNat = (i - min i j).toNat + (min i j + 1074).toNat := by omega
      have e2 : (j + 1074).toNat = (j - min i j).toNat + (min i j + 1074).toNat := by omega
      rw [e1, e2, signed_add, signed_add, compare_mul _ _ _ (by have := Nat.two_pow_pos (min i j + 1074).toNat; omega)]
end Go.Proofs.YtfooijjfjmpigaaGreatDoor.W
/- Plain facts on words of IEEE 754 of 32 bits, and on their way to 64 bits and back. -/
namespace Go.Proofs.YtfooijjfjmpigaaGreatDoor.W
open Ieee

theorem S_sign : Ieee.single.signWeight = 2147483648 := by decide
theorem S_bin : Ieee.single.binade = 8388608 := by decide
theorem S_inf : Ieee.single.infRung = 2139095040 := by decide
theorem S_least : Ieee.single.leastPlace = -149 := by decide
theorem wordS_eq (s : Bool) (r : Nat) : Ieee.single.word s r = (if s then 2147483648 else 0) + r := by
  unfold Format.word
  rw [S_sign]
  cases s <;> simp
theorem readS_eq (x : Nat) : Ieee.single.read x =
    if x % 2147483648 < 8388608 then .number (x / 2147483648 % 2 == 1) (x % 2147483648) (-149)
    else if x % 2147483648 < 2139095040 then
      .number (x / 2147483648 % 2 == 1) (8388608 + x % 2147483648 % 8388608) (-149 + (x % 2147483648 / 8388608 - 1 : Nat))
    else if x % 2147483648 = 2139095040 then .infinity (x / 2147483648 % 2 == 1)
    else .nan (x / 2147483648 % 2 == 1) (x % 2147483648 - 2139095040) := by
  unfold Format.read
  simp only [S_sign, S_bin, S_inf, S_least]
theorem readS_number {x : Nat} {s : Bool} {m : Nat} {p : Int} (hx : x < 4294967296) (h : Ieee.single.read x = .number s m p) :
    m < 16777216 ∧ -149 ≤ p ∧ p ≤ 104 ∧ (8388608 ≤ m ∨ p = -149) ∧ x = (if s then 2147483648 else 0) + ((p + 149).toNat * 8388608 + m) := by
  rw [readS_eq] at h
  have hs : (if (x / 2147483648 % 2 == 1) = true then 2147483648 else 0) = x / 2147483648 * 2147483648 := by
    by_cases g : x / 2147483648 % 2 = 1
    · simp [g]; omega
    · simp [g]; omega
  split at h
  · cases h
    refine ⟨by omega, by omega, by omega, Or.inr rfl, ?_⟩
    rw [hs]; omega
  · split at h
    · cases h
      refine ⟨by omega, by omega, by omega, Or.inl (by omega), ?_⟩
      rw [hs]; omega
    · split at h <;> cases h
theorem writeS_read {x : Nat} {s : Bool} {m : Nat} {p : Int} (hx : x < 4294967296) (h : Ieee.single.read x = .number s m p) : Ieee.single.nearest s m p = x := by
  obtain ⟨h1, h2, h3, h4, h5⟩ := readS_number hx h
  unfold Format.nearest
  by_cases h0 : m = 0
  · subst h0
    rw [if_pos rfl, wordS_eq, h5]
    have : p = -149 := by omega
    subst this
    simp
  · rw [if_neg h0]
    have hl : m.log2 ≤ 23 := by
      have : m.log2 < 24 := (Nat.log2_lt h0).2 (by omega)
      omega
    have hL : max (p + (m.log2 : Nat) - ((Ieee.single.fractionBits : Nat) : Int)) Ieee.single.leastPlace = p := by
      rw [S_least]
      show max (p + (m.log2 : Nat) - 23) (-149) = p
      rcases h4 with h4 | h4
      · have : 23 ≤ m.log2 := (Nat.le_log2 h0).2 (by omega)
        omega
      · omega
    simp only [hL]
    rw [cut_even]
    simp only [Int.sub_self, Int.toNat_zero, Nat.shiftLeft_zero, Nat.pow_zero, cutE_one, S_least, S_bin, S_inf, wordS_eq]
    rw [h5, show p - -149 = p + 149 from by omega, Nat.min_eq_left (by omega)]
theorem writeS_inf {x : Nat} {s : Bool} (hx : x < 4294967296) (h : Ieee.single.read x = .infinity s) : Ieee.single.write (.infinity s) = x := by
  have e : Ieee.single.write (.infinity s) = Ieee.single.word s Ieee.single.infRung := rfl
  rw [e, wordS_eq, S_inf]
  rw [readS_eq] at h
  split at h
  · cases h
  · split at h
    · cases h
    · split at h
      · rename_i h1 h2 h3
        cases h
        by_cases g : x / 2147483648 % 2 = 1
        · simp [g]; omega
        · simp [g]; omega
      · cases h

/-- a number of 32 bits is a double -/
theorem wide_fin {x : Nat} (hx : x < 4294967296) (s : Bool) (m : Nat) (p : Int) (h : Ieee.single.read x = .number s m p) : (Ieee.double.read (Ieee.double.write (.number s m p))).isInfinity = false := by
  obtain ⟨h1, h2, h3, -, -⟩ := readS_number hx h
  obtain ⟨m', p', e, -, -, -⟩ := read_nearest s m p (by omega) (by omega) (by omega)
  have e' : Ieee.double.read (Ieee.double.write (.number s m p)) = .number s m' p' := e
  rw [e']; rfl
theorem wideI_nan (n : Int) : nanB (wideI n) = (Ieee.single.read n.toNat).isNaN := by
  unfold wideI
  cases h : (Ieee.single.read n.toNat).isNaN with
  | true => simp [nanB]
  | false => simp [write_plain _ h]
theorem read_inf (s : Bool) : Ieee.double.read (Ieee.double.write (.infinity s)) = .infinity s := by cases s <;> decide +kernel
/-- there and back -/
theorem narrow_wide (n : Int) (h1 : n < 4294967296) (hn : (Ieee.single.read n.toNat).isNaN = false) : floatToFloatBits .f64 (wideI n).toNat .f32 = some n.toNat := by
  have hx : n.toNat < 4294967296 := by omega
  have e0 : (wideI n).toNat = Ieee.double.write (Ieee.single.read n.toNat) := by
    unfold wideI; rw [hn]; simp
  rw [e0]
  unfold floatToFloatBits
  rw [if_neg (by decide)]
  show (match Ieee.double.read (Ieee.double.write (Ieee.single.read n.toNat)) with
    | .nan _ _ => none
    | .infinity s => some (Ieee.single.write (.infinity s))
    | .number s m e => if (Ieee.single.read (Ieee.single.write (.number s m e))).isInfinity then none else some (Ieee.single.write (.number s m e))) = some n.toNat
  cases h : Ieee.single.read n.toNat with
  | nan s t => rw [h] at hn; cases hn
  | infinity s => rw [read_inf]; simp only; rw [writeS_inf hx h]
  | number s m p =>
    obtain ⟨g1, g2, g3, -, -⟩ := readS_number hx h
    obtain ⟨m', p', e, q1, q2, q3⟩ := read_nearest s m p (by omega) (by omega) (by omega)
    have e' : Ieee.double.read (Ieee.double.write (.number s m p)) = .number s m' p' := e
    rw [e']
    have e2 : Ieee.single.write (.number s m' p') = n.toNat := by
      show Ieee.single.nearest s m' p' = n.toNat
      rw [← writeS_read hx h]
      refine nearest_same Ieee.single s m' m p' p p' (by omega) q2 ?_
      rw [q3]; simp
    simp only [e2, h]
    rfl
end Go.Proofs.YtfooijjfjmpigaaGreatDoor.W
/- Plain facts on what package soft answers: sums and products either way round, a difference is a sum, a sign twice turned; no NaN but one. -/
namespace Go.Proofs.YtfooijjfjmpigaaGreatDoor.W
open Ieee

theorem sum_comm (a b : Datum) : a.sum b = b.sum a := by
  cases a with
  | nan s t => cases b <;> rfl
  | infinity s =>
    cases b with
    | nan s t => rfl
    | infinity t => cases s <;> cases t <;> rfl
    | number t n j => rfl
  | number s m i =>
    cases b with
    | nan s t => rfl
    | infinity t => rfl
    | number t n j =>
      simp only [Datum.sum]
      rw [show min j i = min i j from by omega, Int.add_comm (signed s m _), Bool.and_comm s t]
theorem product_comm (a b : Datum) : a.product b = b.product a := by
  cases a with
  | nan s t => cases b <;> rfl
  | infinity s =>
    cases b with
    | nan s t => rfl
    | infinity t => simp only [Datum.product]; rw [Bool.xor_comm]
    | number t n j => rfl
  | number s m i =>
    cases b with
    | nan s t => rfl
    | infinity t => rfl
    | number t n j =>
      simp only [Datum.product]
      rw [Bool.xor_comm, Nat.mul_comm, Int.add_comm]
theorem add_comm (a b : Int) : opI .add a b = opI .add b a := by
  have e : floatBits .add .f64 a.toNat b.toNat = floatBits .add .f64 b.toNat a.toNat := by
    show ((Ieee.double.read a.toNat).sum (Ieee.double.read b.toNat)).map Ieee.double.write = ((Ieee.double.read b.toNat).sum (Ieee.double.read a.toNat)).map Ieee.double.write
    rw [sum_comm]
  unfold opI; rw [e]
theorem mul_comm (a b : Int) : opI .mul a b = opI .mul b a := by
  have e : floatBits .mul .f64 a.toNat b.toNat = floatBits .mul .f64 b.toNat a.toNat := by
    show ((Ieee.double.read a.toNat).product (Ieee.double.read b.toNat)).map Ieee.double.write = ((Ieee.double.read b.toNat).product (Ieee.double.read a.toNat)).map Ieee.double.write
    rw [product_comm]
  unfold opI; rw [e]
theorem sum_nan (a b : Datum) (h : b.isNaN = true) : a.sum b = none := by
  cases b with
  | nan s t => cases a <;> rfl
  | infinity s => cases h
  | number s m i => cases h
theorem nan_of (a : Int) (h0 : 0 ≤ a) : (Ieee.double.read a.toNat).isNaN = nanB a := by
  rw [nan_read, Int.toNat_of_nonneg h0]
theorem read_turn (a : Int) (h0 : 0 ≤ a) (h1 : a < 18446744073709551616) :
    Ieee.double.read (if a < 9223372036854775808 then a + 9223372036854775808 else a - 9223372036854775808).toNat = (Ieee.double.read a.toNat).opposite := by
  have e1 : (if a < 9223372036854775808 then a + 9223372036854775808 else a - 9223372036854775808).toNat % 9223372036854775808 = a.toNat % 9223372036854775808 := by split <;> omega
  have e2 : ((if a < 9223372036854775808 then a + 9223372036854775808 else a - 9223372036854775808).toNat / 9223372036854775808 % 2 == 1) = !(a.toNat / 9223372036854775808 % 2 == 1) := by
    rw [Bool.eq_iff_iff]; simp; split <;> omega
  rw [read_eq, read_eq, e1, e2]
  split
  · rfl
  · split
    · rfl
    · split <;> rfl
theorem negI_plain (a : Int) (hn : nanB a = false) : negI a = if a < 9223372036854775808 then a + 9223372036854775808 else a - 9223372036854775808 := by
  unfold negI; rw [if_neg (by rw [hn]; decide)]
theorem read_neg (a : Int) (h0 : 0 ≤ a) (h1 : a < 18446744073709551616) (hn : nanB a = false) : Ieee.double.read (negI a).toNat = (Ieee.double.read a.toNat).opposite := by
  rw [negI_plain a hn, read_turn a h0 h1]
theorem negI_nan (a : Int) : nanB (negI a) = nanB a := by
  cases hn : nanB a with
  | true => unfold negI; rw [if_pos hn]; decide
  | false => rw [negI_plain a hn, nan_turn, hn]
theorem sub_add (a b : Int) (h0 : 0 ≤ b) (h1 : b < 18446744073709551616) : opI .add a (negI b) = opI .sub a b := by
  have e : floatBits .add .f64 a.toNat (negI b).toNat = floatBits .sub .f64 a.toNat b.toNat := by
    show ((Ieee.double.read a.toNat).sum (Ieee.double.read (negI b).toNat)).map Ieee.double.write = ((Ieee.double.read a.toNat).sum (Ieee.double.read b.toNat).opposite).map Ieee.double.write
    cases hn : nanB b with
    | true =>
      have n1 : (Ieee.double.read (negI b).toNat).isNaN = true := by rw [nan_of _ (negI_range b h0 h1).1, negI_nan, hn]
      have n2 : (Ieee.double.read b.toNat).opposite.isNaN = true := by
        have : (Ieee.double.read b.toNat).isNaN = true := by rw [nan_of _ h0, hn]
        revert this
        cases Ieee.double.read b.toNat <;> simp [Datum.isNaN, Datum.opposite]
      rw [sum_nan _ _ n1, sum_nan _ _ n2]
    | false => rw [read_neg b h0 h1 hn]
  unfold opI; rw [e]
theorem neg_neg (a : Int) (h0 : 0 ≤ a) (h1 : a < 18446744073709551616) (hn : nanB a = false) : negI (negI a) = a := by
  rw [negI_plain (negI a) (by rw [negI_nan, hn]), negI_plain a hn]
  split <;> split <;> omega
/-- no NaN but one -/
theorem negI_canon (a : Int) : nanB (negI a) = true → negI a = 9221120237041090560 := by
  intro h; rw [negI_nan] at h; unfold negI; rw [if_pos h]
theorem floorI_nan (a : Int) (h0 : 0 ≤ a) : nanB (floorI a) = nanB a := by
  unfold floorI
  cases hn : nanB a with
  | true => rw [if_pos rfl]; decide
  | false =>
    simp only [Bool.false_eq_true, if_false]
    exact write_plain _ (by rw [integral_plain, nan_of a h0, hn])
theorem floorI_canon (a : Int) (h0 : 0 ≤ a) : nanB (floorI a) = true → floorI a = 9221120237041090560 := by
  intro h; rw [floorI_nan a h0] at h; unfold floorI; rw [if_pos h]
theorem fromI_nan (i : Int) : nanB (fromI i) = false := nearest_plain _ _ _
theorem wideI_canon (n : Int) : nanB (wideI n) = true → wideI n = 9221120237041090560 := by
  intro h; rw [wideI_nan] at h; unfold wideI; rw [if_pos h]
end Go.Proofs.YtfooijjfjmpigaaGreatDoor.W
/- Plain facts on what package soft answers, by the exact numbers: whole numbers, floors, whole parts, sums, products and quotients that are exact. -/
namespace Go.Proofs.YtfooijjfjmpigaaGreatDoor.W
open Ieee

/-- 1, in units of the least number's place -/
def one1 : Nat := bigOf 1074
theorem one1_pos : 0 < one1 := bigOf_pos 1074
theorem pow_one1 {k : Nat} (h : k = 1074) : 2 ^ k = one1 := by rw [one1, ← h]; rfl
/-- the exact number of a pattern -/
def keyI (a : Int) : Int := key (Ieee.double.read a.toNat)
/-- a finite double's pattern -/
def finB (a : Int) : Bool := decide (a % 9223372036854775808 < 9218868437227405312)

theorem fin_read (a : Int) (h : finB a = true) : ∃ s m p, Ieee.double.read a.toNat = .number s m p := by
  rw [read_eq]
  simp only [finB, decide_eq_true_eq] at h
  split
  · exact ⟨_, _, _, rfl⟩
  · rw [if_pos (by omega)]; exact ⟨_, _, _, rfl⟩
theorem fin_of_read (a : Int) (h0 : 0 ≤ a) {s : Bool} {m : Nat} {p : Int} (h : Ieee.double.read a.toNat = .number s m p) : finB a = true := by
  rw [read_eq] at h
  simp only [finB, decide_eq_true_eq]
  split at h
  · omega
  · split at h
    · omega
    · split at h <;> cases h
theorem fin_nan (a : Int) (h : finB a = true) : nanB a = false := by
  simp only [finB, decide_eq_true_eq] at h
  simp only [nanB, decide_eq_false_iff_not]
  omega

theorem order_keyI (a b : Int) (h0 : 0 ≤ a) (h0' : a < 18446744073709551616) (h1 : 0 ≤ b) (h1' : b < 18446744073709551616) (na : nanB a = false) (nb : nanB b = false) :
    Ieee.double.order a.toNat b.toNat = some (compare (keyI a) (keyI b)) :=
  order_key (by omega) (by omega) (by rw [nan_of a h0, na]) (by rw [nan_of b h1, nb])
theorem cmp_lt (x y : Int) : (some (compare x y) == some Ordering.lt) = decide (x < y) := by
  simp only [compare, compareOfLessAndEq]
  by_cases h : x < y
  · simp [h]
  · by_cases g : x = y <;> simp [h, g]
theorem cmp_eq (x y : Int) : (some (compare x y) == some Ordering.eq) = decide (x = y) := by
  simp only [compare, compareOfLessAndEq]
  by_cases h : x < y
  · simp [h]; omega
  · by_cases g : x = y <;> simp [g, h]
theorem cmp_gt (x y : Int) : (some (compare x y) == some Ordering.gt) = decide (y < x) := by
  simp only [compare, compareOfLessAndEq]
  by_cases h : x < y
  · simp [h]; omega
  · by_cases g : x = y
    · simp [g]
    · simp [g, h]; omega
theorem lessI_key (a b : Int) (h0 : 0 ≤ a) (h0' : a < 18446744073709551616) (h1 : 0 ≤ b) (h1' : b < 18446744073709551616) (na : nanB a = false) (nb : nanB b = false) : lessI a b = decide (keyI a < keyI b) := by unfold lessI; rw [order_keyI a b h0 h0' h1 h1' na nb, cmp_lt]
theorem equalI_key (a b : Int) (h0 : 0 ≤ a) (h0' : a < 18446744073709551616) (h1 : 0 ≤ b) (h1' : b < 18446744073709551616) (na : nanB a = false) (nb : nanB b = false) : equalI a b = decide (keyI a = keyI b) := by unfold equalI; rw [order_keyI a b h0 h0' h1 h1' na nb, cmp_eq]
theorem lessEqI_key (a b : Int) (h0 : 0 ≤ a) (h0' : a < 18446744073709551616) (h1 : 0 ≤ b) (h1' : b < 18446744073709551616) (na : nanB a = false) (nb : nanB b = false) : lessEqI a b = decide (keyI a ≤ keyI b) := by
  unfold lessEqI
  rw [order_keyI a b h0 h0' h1 h1' na nb, cmp_lt, cmp_eq, Bool.eq_iff_iff]
  simp; omega
theorem order_nan (a b : Int) (h0 : 0 ≤ a) (h1 : 0 ≤ b) (h : nanB a = true ∨ nanB b = true) : Ieee.double.order a.toNat b.toNat = none := by
  have e : (Ieee.double.read a.toNat).isNaN = true ∨ (Ieee.double.read b.toNat).isNaN = true := by rw [nan_of a h0, nan_of b h1]; exact h
  unfold Format.order
  cases ea : Ieee.double.read a.toNat <;> cases eb : Ieee.double.read b.toNat <;> rw [ea, eb] at e <;> simp [Datum.isNaN] at e <;> rfl
theorem less_nan (a b : Int) (h0 : 0 ≤ a) (h1 : 0 ≤ b) (h : nanB a = true ∨ nanB b = true) : lessI a b = false ∧ equalI a b = false ∧ lessEqI a b = false := by
  unfold lessI equalI lessEqI
  rw [order_nan a b h0 h1 h]
  exact ⟨rfl, rfl, rfl⟩

/-! ### whole numbers -/
/-- the double nearest to a whole number of at most 53 digits is that number -/
theorem nearest_key (s : Bool) (n : Nat) (hn : n ≤ 9007199254740992) :
    ∃ m p, Ieee.double.read (Ieee.double.nearest s n 0) = .number s m p ∧ -1074 ≤ p ∧ p ≤ 1 ∧ m * 2 ^ (p + 1074).toNat = n * one1 := by
  by_cases h : n < 9007199254740992
  · obtain ⟨m, p, e, q1, q2, q3⟩ := read_nearest s n 0 h (by omega) (by omega)
    refine ⟨m, p, e, q1, by omega, ?_⟩
    rw [q3, Nat.mul_assoc, ← Nat.pow_add, pow_one1 (by omega)]
  · have e0 : n = 4503599627370496 * 2 ^ 1 := by omega
    have e1 : Ieee.double.nearest s n 0 = Ieee.double.nearest s 4503599627370496 1 := by
      rw [e0]; exact nearest_shift Ieee.double s 4503599627370496 1 1
    obtain ⟨m, p, e, q1, q2, q3⟩ := read_nearest s 4503599627370496 1 (by omega) (by omega) (by omega)
    rw [e1]
    refine ⟨m, p, e, q1, by omega, ?_⟩
    have e2 : 2 ^ ((1 - p).toNat + (p + 1074).toNat) = 2 ^ 1 * one1 := by
      rw [← pow_one1 (k := (1 - p).toNat + (p + 1074).toNat - 1) (by omega), ← Nat.pow_add]
      congr 1; omega
    rw [q3, e0, Nat.mul_assoc, Nat.mul_assoc, ← Nat.pow_add, e2]
theorem sgn_mul (i : Int) (s : Bool) (hs : i ≠ 0 → s = decide (i < 0)) : (if s then -1 else 1) * (i.natAbs : Int) = i := by
  by_cases h : i = 0
  · subst h; cases s <;> rfl
  · rw [hs h]
    by_cases g : i < 0
    · simp [g]; omega
    · simp [g]; omega
theorem fromI_key (i : Int) (hi : i.natAbs ≤ 9007199254740992) : finB (fromI i) = true ∧ keyI (fromI i) = i * one1 := by
  obtain ⟨m, p, e, q1, q2, q3⟩ := nearest_key (decide (i < 0)) i.natAbs hi
  have e' : Ieee.double.read (fromI i).toNat = .number (decide (i < 0)) m p := e
  refine ⟨fin_of_read _ (fromI_range i).1 e', ?_⟩
  unfold keyI
  rw [e', key, signed_eq, q3, Int.natCast_mul, ← Int.mul_assoc, sgn_mul i _ (fun _ => rfl)]

/-- where a quotient by one lies -/
theorem quo_unique (q t : Int) (k : Int) (h1 : q * one1 ≤ k) (h2 : k < q * one1 + one1) (h3 : t * one1 ≤ k) (h4 : k < t * one1 + one1) : q = t := by
  have p : (0 : Int) < one1 := by have := one1_pos; omega
  have a : q < t + 1 := Int.lt_of_mul_lt_mul_right (a := (one1 : Int)) (by rw [Int.add_mul]; omega) (by omega)
  have b : t < q + 1 := Int.lt_of_mul_lt_mul_right (a := (one1 : Int)) (by rw [Int.add_mul]; omega) (by omega)
  omega
end Go.Proofs.YtfooijjfjmpigaaGreatDoor.W
/- Plain facts on what package soft answers, by the exact numbers: whole parts, floors, sums, differences, products and quotients that are exact. -/
namespace Go.Proofs.YtfooijjfjmpigaaGreatDoor.W
open Ieee

theorem quo_scale (n g c : Nat) (hg : 0 < g) (hc : 0 < c) : n / g * (g * c) ≤ n * c ∧ n * c < n / g * (g * c) + g * c := by
  have h1 := Nat.div_add_mod n g
  have h2 := Nat.mod_lt n hg
  have e : n * c = n / g * (g * c) + n % g * c := by
    have : n = n / g * g + n % g := by rw [Nat.mul_comm]; omega
    conv => lhs; rw [this]
    rw [Nat.add_mul, Nat.mul_assoc]
  have h3 : n % g * c < g * c := Nat.mul_lt_mul_of_pos_right h2 hc
  omega
theorem up_scale (n g c : Nat) (hg : 0 < g) (hc : 0 < c) : n * c ≤ (n / g + if n % g ≠ 0 then 1 else 0) * (g * c) ∧ (n / g + if n % g ≠ 0 then 1 else 0) * (g * c) < n * c + g * c := by
  have h1 := Nat.div_add_mod n g
  have h2 := Nat.mod_lt n hg
  have e : n * c = n / g * (g * c) + n % g * c := by
    have : n = n / g * g + n % g := by rw [Nat.mul_comm]; omega
    conv => lhs; rw [this]
    rw [Nat.add_mul, Nat.mul_assoc]
  have h3 : n % g * c < g * c := Nat.mul_lt_mul_of_pos_right h2 hc
  have h4 : 0 < g * c := Nat.mul_pos hg hc
  by_cases h : n % g = 0
  · rw [if_neg (by omega), Nat.add_zero]
    rw [h, Nat.zero_mul] at e
    omega
  · rw [if_pos h, Nat.add_mul, Nat.one_mul]
    have h5 : 0 < n % g * c := Nat.mul_pos (by omega) hc
    omega

/-- a double's whole part -/
def truncI (a : Int) : Int := match Ieee.double.read a.toNat with | .number s m p => signed s (m * 2 ^ p.toNat / 2 ^ (-p).toNat) 0 | _ => 0
theorem signed_v (s : Bool) (m k : Nat) : signed s m k = if s then -((m * 2 ^ k : Nat) : Int) else ((m * 2 ^ k : Nat) : Int) := by
  unfold signed; rw [Nat.shiftLeft_eq]
theorem trunc_some (a : Int) (h : finB a = true) : (Ieee.double.read a.toNat).toInt .zero = some (truncI a) := by
  obtain ⟨s, m, p, e⟩ := fin_read a h
  unfold truncI
  rw [e]
  show some (signed s (Toward.zero.cut s (m <<< p.toNat) (-p).toNat) 0) = _
  rw [cut_zero, Nat.shiftLeft_eq]
/-- a number's parts, scaled to the least number's place -/
theorem scale_eq (m : Nat) (p : Int) (h1 : -1074 ≤ p) : m * 2 ^ (p + 1074).toNat = m * 2 ^ p.toNat * 2 ^ (1074 - (-p).toNat) ∧ one1 = 2 ^ (-p).toNat * 2 ^ (1074 - (-p).toNat) := by
  constructor
  · rw [Nat.mul_assoc, ← Nat.pow_add]; congr 2; omega
  · rw [← Nat.pow_add, pow_one1 (by omega)]
theorem trunc_key (a : Int) (h0' : a < 18446744073709551616) (h : finB a = true) :
    (0 ≤ keyI a → truncI a * one1 ≤ keyI a ∧ keyI a < truncI a * one1 + one1) ∧ (keyI a ≤ 0 → keyI a ≤ truncI a * one1 ∧ truncI a * one1 - one1 < keyI a) := by
  obtain ⟨s, m, p, e⟩ := fin_read a h
  obtain ⟨q1, q2, q3, q4, q5⟩ := read_number (by omega) e
  obtain ⟨e1, e2⟩ := scale_eq m p q2
  have hs := quo_scale (m * 2 ^ p.toNat) (2 ^ (-p).toNat) (2 ^ (1074 - (-p).toNat)) (Nat.two_pow_pos _) (Nat.two_pow_pos _)
  unfold keyI truncI
  rw [e]
  simp only [key, signed_v, Nat.pow_zero, Nat.mul_one]
  rw [← e2, ← e1] at hs
  have hp := one1_pos
  generalize m * 2 ^ p.toNat / 2 ^ (-p).toNat = T at *
  generalize m * 2 ^ (p + 1074).toNat = V at *
  obtain ⟨g1, g2⟩ := hs
  have g1' : (T : Int) * one1 ≤ V := by exact_mod_cast g1
  have g2' : (V : Int) < (T : Int) * one1 + one1 := by exact_mod_cast g2
  cases s
  · simp only [Bool.false_eq_true, if_false]; omega
  · simp only [if_true, Int.neg_mul]; omega

theorem key_top : keyI 4890909195324358656 = 9223372036854775808 * one1 := by
  have e : Ieee.double.read (4890909195324358656 : Int).toNat = .number false 4503599627370496 11 := by decide +kernel
  unfold keyI
  rw [e]
  simp only [key, signed_v, Bool.false_eq_true, if_false]
  have e2 : 2 ^ ((11 : Int) + 1074).toNat = 2 ^ 11 * one1 := by rw [← pow_one1 (k := ((11 : Int) + 1074).toNat - 11) (by decide), ← Nat.pow_add]; congr 1
  rw [e2]; omega
theorem key_bot : keyI 14114281232179134464 = -9223372036854775808 * one1 := by
  have e : Ieee.double.read (14114281232179134464 : Int).toNat = .number true 4503599627370496 11 := by decide +kernel
  unfold keyI
  rw [e]
  simp only [key, signed_v, if_true]
  have e2 : 2 ^ ((11 : Int) + 1074).toNat = 2 ^ 11 * one1 := by rw [← pow_one1 (k := ((11 : Int) + 1074).toNat - 11) (by decide), ← Nat.pow_add]; congr 1
  rw [e2]; omega
theorem fits_key (a : Int) (h0 : 0 ≤ a) (h0' : a < 18446744073709551616) (na : nanB a = false) :
    fitsB a = decide (-9223372036854775808 * one1 ≤ keyI a ∧ keyI a < 9223372036854775808 * one1) := by
  have o1 := order_keyI a 14114281232179134464 h0 h0' (by decide) (by decide) na (by decide)
  have o2 := order_keyI a 4890909195324358656 h0 h0' (by decide) (by decide) na (by decide)
  unfold fitsB
  rw [show (14114281232179134464 : Nat) = (14114281232179134464 : Int).toNat from rfl, show (4890909195324358656 : Nat) = (4890909195324358656 : Int).toNat from rfl, o1, o2, cmp_gt, cmp_eq, cmp_lt, key_top, key_bot, Bool.eq_iff_iff]
  simp
  omega
theorem trunc_val (a : Int) (h0' : a < 18446744073709551616) (h : finB a = true) (h1 : -9223372036854775808 * (one1 : Int) ≤ keyI a) (h2 : keyI a < 9223372036854775808 * one1) :
    floatToIntVal .f64 a.toNat .i64 = some (truncI a) := by
  have hr : -9223372036854775808 ≤ truncI a ∧ truncI a ≤ 9223372036854775807 := by
    obtain ⟨k1, k2⟩ := trunc_key a h0' h
    have p : (0 : Int) < one1 := by have := one1_pos; omega
    by_cases g : 0 ≤ keyI a
    · obtain ⟨g1, g2⟩ := k1 g
      have b1 : truncI a < 9223372036854775808 := Int.lt_of_mul_lt_mul_right (a := (one1 : Int)) (by omega) (by omega)
      have b2 : -1 < truncI a := Int.lt_of_mul_lt_mul_right (a := (one1 : Int)) (by omega) (by omega)
      omega
    · obtain ⟨g1, g2⟩ := k2 (by omega)
      have b1 : truncI a < 1 := Int.lt_of_mul_lt_mul_right (a := (one1 : Int)) (by omega) (by omega)
      have b2 : -9223372036854775809 < truncI a := Int.lt_of_mul_lt_mul_right (a := (one1 : Int)) (by omega) (by omega)
      omega
  unfold floatToIntVal
  have e : (FloatKind.f64.decode a.toNat).toInt .zero = some (truncI a) := trunc_some a h
  rw [e]
  exact if_pos hr

/-! ### floors -/
theorem floor_read (a : Int) (h0 : 0 ≤ a) (h0' : a < 18446744073709551616) (h : finB a = true) {s : Bool} {m : Nat} {p : Int} (e : Ieee.double.read a.toNat = .number s m p) :
    floorI a = (Ieee.double.nearest s (m * 2 ^ p.toNat / 2 ^ (-p).toNat + if s = true ∧ m * 2 ^ p.toNat % 2 ^ (-p).toNat ≠ 0 then 1 else 0) 0 : Nat) ∧ (0 ≤ p → floorI a = a) := by
  have e1 : floorI a = (Ieee.double.nearest s (m * 2 ^ p.toNat / 2 ^ (-p).toNat + if s = true ∧ m * 2 ^ p.toNat % 2 ^ (-p).toNat ≠ 0 then 1 else 0) 0 : Nat) := by
    unfold floorI
    rw [if_neg (by rw [fin_nan a h]; decide), e]
    show ((Ieee.double.nearest s (Toward.down.cut s (m <<< p.toNat) (-p).toNat) 0 : Nat) : Int) = _
    rw [cut_down, Nat.shiftLeft_eq]
  refine ⟨e1, fun hp => ?_⟩
  rw [e1]
  have e2 : (-p).toNat = 0 := by omega
  rw [e2, Nat.pow_zero, Nat.div_one, Nat.mod_one, if_neg (by simp), Nat.add_zero]
  have e3 : Ieee.double.nearest s (m * 2 ^ p.toNat) 0 = Ieee.double.nearest s m p := nearest_same Ieee.double s _ m 0 p 0 (by omega) (by omega) (by simp)
  rw [e3, write_read (by omega) e]
  omega
theorem floor_key (a : Int) (h0 : 0 ≤ a) (h0' : a < 18446744073709551616) (h : finB a = true) :
    finB (floorI a) = true ∧ floorI (floorI a) = floorI a ∧ ∃ q : Int, keyI (floorI a) = q * one1 ∧ q * one1 ≤ keyI a ∧ keyI a < q * one1 + one1 := by
  obtain ⟨s, m, p, e⟩ := fin_read a h
  obtain ⟨q1, q2, q3, q4, q5⟩ := read_number (by omega) e
  obtain ⟨f1, f2⟩ := floor_read a h0 h0' h e
  have hp1 := one1_pos
  by_cases hp : 0 ≤ p
  · rw [f2 hp]
    refine ⟨h, f2 hp, (if s then -1 else 1) * ((m * 2 ^ p.toNat : Nat) : Int), ?_⟩
    have e2 : keyI a = (if s then -1 else 1) * ((m * 2 ^ p.toNat : Nat) : Int) * one1 := by
      unfold keyI
      rw [e, key, signed_eq, Int.mul_assoc, ← Int.natCast_mul, Nat.mul_assoc, ← pow_one1 (k := (p + 1074).toNat - p.toNat) (by omega), ← Nat.pow_add]
      congr 5; omega
    refine ⟨e2, by omega, by omega⟩
  · -- the number of whole units
    have hg : 2 ≤ 2 ^ (-p).toNat := by
      have : 2 ^ 1 ≤ 2 ^ (-p).toNat := Nat.pow_le_pow_right (by omega) (by omega)
      omega
    have e0 : p.toNat = 0 := by omega
    rw [e0, Nat.pow_zero, Nat.mul_one] at f1
    obtain ⟨e1, e2⟩ := scale_eq m p q2
    rw [e0, Nat.pow_zero, Nat.mul_one] at e1
    have hd := quo_scale m (2 ^ (-p).toNat) (2 ^ (1074 - (-p).toNat)) (Nat.two_pow_pos _) (Nat.two_pow_pos _)
    have hu := up_scale m (2 ^ (-p).toNat) (2 ^ (1074 - (-p).toNat)) (Nat.two_pow_pos _) (Nat.two_pow_pos _)
    rw [← e2, ← e1] at hd hu
    have hm2 : m / 2 ^ (-p).toNat ≤ m / 2 := Nat.div_le_div_left hg (by omega)
    generalize hc : m / 2 ^ (-p).toNat + (if s = true ∧ m % 2 ^ (-p).toNat ≠ 0 then 1 else 0) = c at *
    have hc2 : c < 9007199254740992 := by
      rw [← hc]; split <;> omega
    obtain ⟨m', p', r, r1, r2, r3⟩ := read_nearest s c 0 hc2 (by omega) (by omega)
    have r' : Ieee.double.read (floorI a).toNat = .number s m' p' := by rw [f1]; exact r
    have hf : finB (floorI a) = true := fin_of_read _ (floorI_range a).1 r'
    refine ⟨hf, ?_, (if s then -1 else 1) * (c : Int), ?_⟩
    · have hff := (floor_read (floorI a) (floorI_range a).1 (floorI_range a).2 hf r').1
      rw [hff, f1, show p'.toNat = 0 from by omega, Nat.pow_zero, Nat.mul_one, r3, show (0 - p').toNat = (-p').toNat from by omega, Nat.mul_div_cancel _ (Nat.two_pow_pos _), Nat.mul_mod_left, if_neg (by simp), Nat.add_zero]
    · have k1 : keyI (floorI a) = (if s then -1 else 1) * (c : Int) * one1 := by
        unfold keyI
        rw [r', key, signed_eq, r3, Nat.mul_assoc, ← Nat.pow_add, pow_one1 (by omega), Int.mul_assoc, ← Int.natCast_mul]
      refine ⟨k1, ?_⟩
      unfold keyI
      rw [e]
      simp only [key, signed_v]
      generalize m * 2 ^ (p + 1074).toNat = V at *
      obtain ⟨d1, d2⟩ := hd
      obtain ⟨u1, u2⟩ := hu
      cases s
      · have hcc : m / 2 ^ (-p).toNat = c := by rw [← hc]; simp
        rw [hcc] at d1 d2
        have d1' : (c : Int) * one1 ≤ V := by exact_mod_cast d1
        have d2' : (V : Int) < (c : Int) * one1 + one1 := by exact_mod_cast d2
        simp only [Bool.false_eq_true, if_false, Int.one_mul]
        omega
      · have hcc : (m / 2 ^ (-p).toNat + if m % 2 ^ (-p).toNat ≠ 0 then 1 else 0) = c := by rw [← hc]; simp
        rw [hcc] at u1 u2
        have u1' : (V : Int) ≤ (c : Int) * one1 := by exact_mod_cast u1
        have u2' : (c : Int) * one1 < (V : Int) + one1 := by exact_mod_cast u2
        simp only [if_true, Int.neg_mul, Int.one_mul]
        omega
theorem floor_inf (a : Int) (h0 : 0 ≤ a) (h0' : a < 18446744073709551616) (hn : nanB a = false) (hf : finB a = false) : floorI a = a := by
  have e : ∃ s, Ieee.double.read a.toNat = .infinity s := by
    cases e : Ieee.double.read a.toNat with
    | infinity s => exact ⟨s, rfl⟩
    | number s m p => rw [fin_of_read a h0 e] at hf; cases hf
    | nan s t => have := nan_of a h0; rw [e, hn] at this; cases this
  obtain ⟨s, e⟩ := e
  unfold floorI
  rw [if_neg (by rw [hn]; decide), e]
  show ((Ieee.double.write (.infinity s) : Nat) : Int) = a
  rw [write_inf (by omega) e]
  omega
end Go.Proofs.YtfooijjfjmpigaaGreatDoor.W
