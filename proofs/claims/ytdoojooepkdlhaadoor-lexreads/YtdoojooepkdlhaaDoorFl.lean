/- Plain facts on words of IEEE 754: what a word reads as, that what is written is no NaN, how two words compare. No Go in sight. -/
import Derived.Laws.FloatArith
import Derived.Deep.Draws
import Derived.Laws.NewFold
namespace Go.Proofs.YtdoojooepkdlhaaDoor.W
open Ieee

/-- is a pattern a NaN? -/
def nanB (n : Int) : Bool := decide (9218868437227405312 < n % 9223372036854775808)
/-- the one NaN that is answered -/
def canon : Int := 9221120237041090560
/-- a pattern, with all NaNs made one -/
def fltW (n : Int) : Int := if nanB n = true then 9221120237041090560 else n

theorem D_sign : Ieee.double.signWeight = 9223372036854775808 := by decide
theorem D_bin : Ieee.double.binade = 4503599627370496 := by decide
theorem D_inf : Ieee.double.infRung = 9218868437227405312 := by decide
theorem D_least : Ieee.double.leastPlace = -1074 := by decide
theorem D_width : Ieee.double.width = 64 := by decide

theorem word_eq (s : Bool) (r : Nat) : Ieee.double.word s r = (if s then 9223372036854775808 else 0) + r := by
  unfold Format.word
  rw [D_sign]
  cases s <;> simp

theorem read_eq (x : Nat) : Ieee.double.read x =
    if x % 9223372036854775808 < 4503599627370496 then .number (x / 9223372036854775808 % 2 == 1) (x % 9223372036854775808) (-1074)
    else if x % 9223372036854775808 < 9218868437227405312 then
      .number (x / 9223372036854775808 % 2 == 1) (4503599627370496 + x % 9223372036854775808 % 4503599627370496) (-1074 + (x % 9223372036854775808 / 4503599627370496 - 1 : Nat))
    else if x % 9223372036854775808 = 9218868437227405312 then .infinity (x / 9223372036854775808 % 2 == 1)
    else .nan (x / 9223372036854775808 % 2 == 1) (x % 9223372036854775808 - 9218868437227405312) := by
  unfold Format.read
  simp only [D_sign, D_bin, D_inf, D_least]

theorem nan_read (x : Nat) : (Ieee.double.read x).isNaN = nanB x := by
  rw [read_eq, nanB]
  have e : ((x : Int) % 9223372036854775808) = ((x % 9223372036854775808 : Nat) : Int) := by omega
  rw [e]
  split
  · rename_i h; simp [Datum.isNaN]; omega
  · split
    · rename_i h; simp [Datum.isNaN]; omega
    · split
      · rename_i h; simp [Datum.isNaN]; omega
      · rename_i h1 h2 h3; simp [Datum.isNaN]; omega

theorem order_self (d : Datum) : (d.order d != some .eq) = d.isNaN := by
  cases d with
  | number s m i => simp [Datum.order, Datum.isNaN, compare, compareOfLessAndEq]
  | infinity s => cases s <;> rfl
  | nan s t => rfl

theorem isNaN_eq (x : Nat) : (Ieee.double.order x x != some .eq) = nanB x := by
  rw [← nan_read]; exact order_self _

/-- a word whose rung is not above infinity's is no NaN -/
theorem word_plain (s : Bool) (r : Nat) (h : r ≤ 9218868437227405312) : nanB (Ieee.double.word s r : Nat) = false := by
  rw [word_eq, nanB]
  cases s <;> simp <;> omega
theorem nearest_plain (s : Bool) (m : Nat) (p : Int) : nanB (Ieee.double.nearest s m p : Nat) = false := by
  unfold Format.nearest
  split
  · exact word_plain _ _ (by omega)
  · rw [D_inf]; exact word_plain _ _ (Nat.min_le_right ..)
theorem write_plain (d : Datum) (h : d.isNaN = false) : nanB (Ieee.double.write d : Nat) = false := by
  cases d with
  | number s m p => exact nearest_plain s m p
  | infinity s => exact word_plain s _ (by rw [D_inf]; omega)
  | nan s t => exact absurd h (by simp [Datum.isNaN])
theorem write_lt (d : Datum) : Ieee.double.write d < 18446744073709551616 := by
  have := Ieee.double.write_lt d
  rwa [D_width] at this

theorem sum_plain {a b d : Datum} (h : a.sum b = some d) : d.isNaN = false := by
  cases a <;> cases b <;> simp [Datum.sum] at h <;> (try (rcases h with ⟨_, h⟩)) <;> (try subst h) <;> rfl
theorem product_plain {a b d : Datum} (h : a.product b = some d) : d.isNaN = false := by
  cases a <;> cases b <;> simp [Datum.product] at h <;> (try (rcases h with ⟨_, h⟩)) <;> (try subst h) <;> rfl
theorem quotient_plain {k : Nat} {a b d : Datum} (h : a.quotient k b = some d) : d.isNaN = false := by
  cases a with
  | nan s t => simp [Datum.quotient] at h
  | infinity s => cases b <;> simp [Datum.quotient] at h <;> subst h <;> rfl
  | number s m i =>
    cases b with
    | nan t u => simp [Datum.quotient] at h
    | infinity t => simp [Datum.quotient] at h; subst h; rfl
    | number t n j =>
      simp only [Datum.quotient] at h
      split at h
      · split at h
        · cases h
        · cases h; rfl
      · cases h; rfl

theorem floatBits_plain {op : BinOp} {x y r : Nat} (h : floatBits op .f64 x y = some r) : nanB (r : Int) = false := by
  unfold floatBits at h
  have go : ∀ o : Option Datum, (∀ d, o = some d → d.isNaN = false) → o.map Ieee.double.write = some r → nanB (r : Int) = false := by
    intro o ho hm
    cases o with
    | none => cases hm
    | some d => cases hm; exact write_plain d (ho d rfl)
  split at h
  · exact go _ (fun d => sum_plain) h
  · exact go _ (fun d => sum_plain) h
  · exact go _ (fun d => product_plain) h
  · exact go _ (fun d => quotient_plain) h
  · cases h
theorem floatBits_lt {op : BinOp} {x y r : Nat} (h : floatBits op .f64 x y = some r) : r < 18446744073709551616 := by
  have := floatBits_wf h
  simpa [Lit.wf] using this

/-- a NaN that the tape names is a NaN -/
theorem nanBits_nan (x y t : Nat) : nanB ((Question.nanBits .f64 x y).cut t : Nat) = true := by
  show decide (9218868437227405312 < (((t % 2) * 9223372036854775808 + 9218868437227405312 + 1 + (t / 2) % 4503599627370495 : Nat) : Int) % 9223372036854775808) = true
  rw [decide_eq_true_eq]
  have h1 : t / 2 % 4503599627370495 < 4503599627370495 := Nat.mod_lt _ (by omega)
  have h2 : t % 2 = 0 ∨ t % 2 = 1 := by omega
  generalize t / 2 % 4503599627370495 = q at *
  generalize t % 2 = s at *
  rcases h2 with rfl | rfl <;> omega
theorem nanBits_lt (x y t : Nat) : (Question.nanBits .f64 x y).cut t < 18446744073709551616 := by
  show (t % 2) * 9223372036854775808 + 9218868437227405312 + 1 + (t / 2) % 4503599627370495 < _
  omega

/-- what an operation on two patterns answers -/
def opI (op : BinOp) (a b : Int) : Int := match floatBits op .f64 a.toNat b.toNat with | some r => (r : Int) | none => 9221120237041090560
theorem opI_range (op : BinOp) (a b : Int) : 0 ≤ opI op a b ∧ opI op a b < 18446744073709551616 := by
  unfold opI
  split
  · rename_i r h; have := floatBits_lt h; omega
  · omega
theorem opI_plain (op : BinOp) (a b : Int) : nanB (opI op a b) = true → opI op a b = 9221120237041090560 := by
  unfold opI
  split
  · rename_i r h; intro hn; rw [floatBits_plain h] at hn; cases hn
  · intro _; rfl

/-! ### the walk's laws -/
/-- what '+', '-', '*', '/' on doubles give: the bits, or a NaN that the tape names -/
def fres (op : BinOp) (x y : Nat) (w : World) : Nat :=
  match floatBits op .f64 x y with | some r => r | none => (Question.nanBits .f64 x y).cut (w.tape w.drawn (.nanBits .f64 x y))
def fdraw (op : BinOp) (x y : Nat) : Nat := match floatBits op .f64 x y with | some _ => 0 | none => 1
theorem fres_lt (op : BinOp) (x y : Nat) (w : World) : fres op x y w < 18446744073709551616 := by
  unfold fres
  split
  · rename_i r h; exact floatBits_lt h
  · exact nanBits_lt ..
theorem fltW_fres (op : BinOp) (a b : Int) (w : World) : fltW (fres op a.toNat b.toNat w : Nat) = opI op a b := by
  unfold fres opI
  split
  · rename_i r h; rw [fltW, floatBits_plain h]; simp
  · rw [fltW, nanBits_nan]; simp

theorem run_fop (P : Program) (op : BinOp) (hop : op = .add ∨ op = .sub ∨ op = .mul ∨ op = .quo) (t : TypeId) (x y : Nat) (w : World) :
    (binOp op t (.float .f64 x) (.float .f64 y)).run P w = .ok (.float .f64 (fres op x y w)) (w.drewN (fdraw op x y)) := by
  cases h : floatBits op .f64 x y with
  | some r =>
    rw [run_float_arith w op t .f64 x y r h]
    simp [fres, fdraw, h, World.drewN_zero]
  | none =>
    have e1 : fres op x y w = (Question.nanBits .f64 x y).cut (w.tape w.drawn (.nanBits .f64 x y)) := by simp [fres, h]
    have e2 : fdraw op x y = 1 := by simp [fdraw, h]
    rw [e1, e2]
    rcases hop with rfl | rfl | rfl | rfl <;> simp only [floatBits] at h <;> simp [binOp, Op.floatArith, h, World.drew_is_drewN, Question.forced]

/-! ### Floor, and widths -/
theorem nan_write (s : Bool) (t : Nat) (h : t % 4503599627370496 ≠ 0) : nanB (Ieee.double.write (.nan s t) : Nat) = true := by
  have e : Ieee.double.write (.nan s t) = Ieee.double.word s (Ieee.double.infRung + t % Ieee.double.binade) := rfl
  rw [e, word_eq, D_inf, D_bin, nanB, decide_eq_true_eq]
  have : t % 4503599627370496 < 4503599627370496 := Nat.mod_lt _ (by omega)
  cases s <;> simp <;> omega
theorem quiet_mod (t : Nat) : Ieee.double.quiet t % 4503599627370496 ≠ 0 := by
  have e : Ieee.double.quiet t = t ||| 2 ^ 51 := rfl
  rw [e]
  intro h
  have h1 : ((t ||| 2 ^ 51) % 2 ^ 52).testBit 51 = true := by
    rw [Nat.testBit_mod_two_pow, Nat.testBit_or, Nat.testBit_two_pow_self]
    simp
  rw [show (2 : Nat) ^ 52 = 4503599627370496 from by decide, h] at h1
  simp at h1

/-- what Floor answers -/
def floorI (a : Int) : Int := if nanB a = true then 9221120237041090560 else (Ieee.double.write ((Ieee.double.read a.toNat).integral .down) : Nat)
/-- what the machine's own floor hands back: of a NaN that is not quiet the tape says which NaN -/
def flres (P : Program) (x : Nat) (w : World) : Nat :=
  match (Extern.MathFloor.toIntegral "math.archFloor" .down #[.float .f64 x]).run P w with
  | .ok (.float _ r) _ => r
  | _ => 0
def fldraw (x : Nat) : Nat :=
  match Ieee.double.read x with
  | .nan _ t => if Ieee.double.quiet t = t then 0 else 1
  | _ => 0
theorem integral_plain (way : Toward) (d : Datum) : (d.integral way).isNaN = d.isNaN := by cases d <;> rfl
/-- the entry's text, with the question that it asks of a NaN that is not quiet -/
theorem floor_text : ∃ q : Question, (∀ x, Extern.MathFloor.toIntegral "math.archFloor" .down #[.float .f64 x] =
      (match Ieee.double.read x with
      | .nan s t =>
        if Ieee.double.quiet t = t then pure (.float .f64 x) else do
        let kept ← choose q
        pure (.float .f64 (if kept == 1 then x else Ieee.double.write (.nan s (Ieee.double.quiet t))))
      | d => pure (.float .f64 (Ieee.double.write (d.integral .down))) : Sem Value)) ∧ q.forced = false :=
  ⟨_, fun _ => rfl, rfl⟩
theorem floor_run (P : Program) (x : Nat) (w : World) : ∃ r, (Extern.MathFloor.toIntegral "math.archFloor" .down #[.float .f64 x]).run P w = .ok (.float .f64 r) (w.drewN (fldraw x)) ∧
    (x < 18446744073709551616 → r < 18446744073709551616) ∧ (nanB (x : Nat) = true → nanB (r : Nat) = true) ∧ (nanB (x : Nat) = false → r = Ieee.double.write ((Ieee.double.read x).integral .down)) := by
  have hn := nan_read x
  obtain ⟨q, hq, hf⟩ := floor_text
  rw [hq x]
  unfold fldraw
  cases hd : Ieee.double.read x with
  | number s m i =>
    rw [hd] at hn
    refine ⟨Ieee.double.write ((Datum.number s m i).integral .down), by simp [World.drewN_zero], fun _ => write_lt _, fun h => ?_, fun _ => rfl⟩
    rw [← hn] at h; cases h
  | infinity s =>
    rw [hd] at hn
    refine ⟨Ieee.double.write ((Datum.infinity s).integral .down), by simp [World.drewN_zero], fun _ => write_lt _, fun h => ?_, fun _ => rfl⟩
    rw [← hn] at h; cases h
  | nan s t =>
    rw [hd] at hn
    have hn' : nanB (x : Nat) = true := by rw [← hn]; rfl
    have h2 : nanB (Ieee.double.write (.nan s (Ieee.double.quiet t)) : Nat) = true := nan_write s _ (quiet_mod t)
    by_cases h : Ieee.double.quiet t = t
    · refine ⟨x, by simp [h, World.drewN_zero], fun hx => hx, fun _ => hn', fun g => ?_⟩
      rw [hn'] at g; cases g
    · refine ⟨if q.cut (w.tape w.drawn q) == 1 then x else Ieee.double.write (.nan s (Ieee.double.quiet t)), by simp [h, hf, World.drew_is_drewN], ?_, ?_, fun g => ?_⟩
      · intro hx; split
        · exact hx
        · exact write_lt _
      · intro _; split
        · exact hn'
        · exact h2
      · rw [hn'] at g; cases g
theorem flres_eq (P : Program) (x : Nat) (w : World) : (Extern.MathFloor.toIntegral "math.archFloor" .down #[.float .f64 x]).run P w = .ok (.float .f64 (flres P x w)) (w.drewN (fldraw x)) ∧
    (x < 18446744073709551616 → flres P x w < 18446744073709551616) ∧ (nanB (x : Nat) = true → nanB (flres P x w : Nat) = true) ∧ (nanB (x : Nat) = false → flres P x w = Ieee.double.write ((Ieee.double.read x).integral .down)) := by
  obtain ⟨r, h1, h2, h3, h4⟩ := floor_run P x w
  have e : flres P x w = r := by unfold flres; rw [h1]
  rw [e]
  exact ⟨h1, h2, h3, h4⟩
theorem fltW_flres (P : Program) (a : Int) (h0 : 0 ≤ a) (w : World) : fltW (flres P a.toNat w : Nat) = floorI a := by
  obtain ⟨-, -, h3, h4⟩ := flres_eq P a.toNat w
  rw [Int.toNat_of_nonneg h0] at h3 h4
  unfold floorI
  cases hn : nanB a with
  | true => rw [fltW, h3 hn, if_pos rfl, if_pos rfl]
  | false =>
    rw [h4 hn]
    have hp : nanB (Ieee.double.write ((Ieee.double.read a.toNat).integral .down) : Nat) = false := write_plain _ (by rw [integral_plain, nan_read, Int.toNat_of_nonneg h0, hn])
    rw [fltW, hp]
theorem flres_lt (P : Program) (x : Nat) (hx : x < 18446744073709551616) (w : World) : flres P x w < 18446744073709551616 := (flres_eq P x w).2.1 hx
theorem floorI_range (a : Int) : 0 ≤ floorI a ∧ floorI a < 18446744073709551616 := by
  unfold floorI
  split
  · omega
  · have := write_lt ((Ieee.double.read a.toNat).integral .down); omega
theorem run_floor (P : Program) (x : Nat) (w : World) :
    (Extern.MathFloor.toIntegral "math.archFloor" .down #[.float .f64 x]).run P w = .ok (.float .f64 (flres P x w)) (w.drewN (fldraw x)) := (flres_eq P x w).1

/-- what Wide answers -/
def wideI (n : Int) : Int := if (Ieee.single.read n.toNat).isNaN = true then 9221120237041090560 else (Ieee.double.write (Ieee.single.read n.toNat) : Nat)
def wres (x : Nat) (w : World) : Nat :=
  match Ieee.single.read x with
  | .nan _ _ => (Question.nanConv .f64 x).cut (w.tape w.drawn (.nanConv .f64 x))
  | d => Ieee.double.write d
def wdraw (x : Nat) : Nat := if (Ieee.single.read x).isNaN = true then 1 else 0
theorem wideI_range (a : Int) : 0 ≤ wideI a ∧ wideI a < 18446744073709551616 := by
  unfold wideI
  split
  · omega
  · have := write_lt (Ieee.single.read a.toNat); omega
theorem nanConv_nan (x t : Nat) : nanB ((Question.nanConv .f64 x).cut t : Nat) = true := nanBits_nan x x t
theorem nanConv_lt (x t : Nat) : (Question.nanConv .f64 x).cut t < 18446744073709551616 := nanBits_lt x x t
theorem wres_lt (x : Nat) (w : World) : wres x w < 18446744073709551616 := by
  unfold wres
  split
  · exact nanConv_lt ..
  · exact write_lt _
theorem fltW_wres (n : Int) (w : World) : fltW (wres n.toNat w : Nat) = wideI n := by
  unfold wres wideI
  cases Ieee.single.read n.toNat with
  | nan s t => simp [fltW, nanConv_nan, Datum.isNaN]
  | number s m i => simp [fltW, write_plain (.number s m i) rfl, Datum.isNaN]
  | infinity s => simp [fltW, write_plain (.infinity s) rfl, Datum.isNaN]
/-- a word of a wider format has room for every number of the narrower one -/
theorem run_wide (P : Program) (src dst : TypeId) (x : Nat) (hs : (P.underlying src).isSome = true) (hd : P.underlying dst = some (.float .f64))
    (hfin : ∀ s m i, Ieee.single.read x = .number s m i → (Ieee.double.read (Ieee.double.write (.number s m i))).isInfinity = false) (w : World) :
    (convert src dst (.float .f32 x)).run P w = .ok (.float .f64 (wres x w)) (w.drewN (wdraw x)) := by
  obtain ⟨u, hs'⟩ := Option.isSome_iff_exists.1 hs
  have e : (convert src dst (.float .f32 x)).run P w = (Conv.floatToFloat .f32 x .f64).run P w := by
    cases u <;> simp [convert, run_underlying hs', run_underlying hd]
  rw [e]
  unfold wres wdraw
  have e2 : Conv.floatToFloat .f32 x .f64 = (match Ieee.single.read x with
    | .nan _ _ => do pure (.float .f64 (← choose (.nanConv .f64 x)))
    | .infinity s => pure (.float .f64 (Ieee.double.write (.infinity s)))
    | .number s m e =>
      if (Ieee.double.read (Ieee.double.write (.number s m e))).isInfinity then do pure (.float .f64 (← choose (.floatToFloat x)))
      else pure (.float .f64 (Ieee.double.write (.number s m e))) : Sem Value) := rfl
  rw [e2]
  cases hr : Ieee.single.read x with
  | number s m i => simp [World.drewN_zero, Datum.isNaN, hfin s m i hr]
  | infinity s => simp [World.drewN_zero, Datum.isNaN]
  | nan s t => simp [World.drew_is_drewN, Question.forced, Datum.isNaN]
end Go.Proofs.YtdoojooepkdlhaaDoor.W
