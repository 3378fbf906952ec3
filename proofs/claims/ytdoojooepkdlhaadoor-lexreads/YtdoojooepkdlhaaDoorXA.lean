import Derived.Test.YtdoojooepkdlhaaDoorRows
import Derived.Test.YtdoojooepkdlhaaDoorX1j
import Derived.LaidMore
import Derived.Stop.Joined
import Derived.ProofKit
import Derived.Test.YtdoojooepkdlhaaDoorX1a
import Derived.Test.YtdoojooepkdlhaaDoorT6
import Derived.Test.YtdoojooepkdlhaaDoorX1i
import Derived.Test.YtdoojooepkdlhaaDoorX1n
import Derived.Laws.ResultCell
import Derived.Maps.AppendAt
import Derived.Deep.RegionHeld3
import Derived.Test.YtdoojooepkdlhaaDoorX1k
import Derived.Test.YtdoojooepkdlhaaDoorX1m
import Derived.Test.YtdoojooepkdlhaaDoorIt1
import Derived.Deep.Quiet
import Derived.Sort.Grow
import Derived.Deep.QuietTactic
import Derived.BigQuiet
/- What the listed variables hold, out of the statements' own condition: the library's tables and the marks of package lex. -/
namespace Go.Proofs.YtdoojooepkdlhaaDoor.W
open Go.ChangeShapes Go.WideShapes Go.ChangeAt Go.RowKit

/-- an array of strings that reads as these bytes holds them -/
theorem cells_of_strs {H : Type} {enc : TypeId × Value → H} {P : Program} {w : World} {base : Nat} {sp : Nat → Bool} {held : Bool} {fuel : Nat} {t e : TypeId} {n : Nat} {cs : List Value} {bs : List (List UInt8)} {p : List MemPlace}
    (ht : P.underlying t = some (.array n e)) (he : P.underlying e = some .string) (hce : P.cellsOf e = 1) (hct : P.cellsOf t = n)
    (h : DataW.trod enc P w base sp held fuel t cs = some (.agg (bs.map fun b => .lit (.string b)), p)) : cs = bs.map fun b => Value.string (bytesOf b) := by
  cases fuel with
  | zero => simp [DataW.trod] at h
  | succ fuel =>
    simp only [DataW.trod, ht, hce, hct, Nat.mul_one] at h
    split at h
    · rename_i hl
      obtain ⟨xs, hm, hx⟩ := Option.map_eq_some_iff.1 h
      have hxs : xs.map (·.1) = bs.map fun b => (DataW.lit (.string b) : DataW H) := by
        have := congrArg Prod.fst hx
        simpa using this
      have hxl : xs.length = n := by simpa using Lib.mapM_length hm
      have hzl : bs.length = n := by
        have := congrArg List.length hxs
        simp at this
        omega
      apply List.ext_getElem?
      intro i
      by_cases hi : i < n
      · obtain ⟨b, hb, hf⟩ := Lib.mapM_at hm i i (by simp [hi])
        obtain ⟨s, hc, rfl, _⟩ := DataW.trod_string he hf
        have h1 : cs[i]? = some (.string s) := by
          have := congrArg (·[0]?) hc
          simpa [List.getElem?_take, List.getElem?_drop] using this
        have h2 : (xs.map (·.1))[i]? = some (DataW.lit (.string s.data.toList) : DataW H) := by simp [hb]
        rw [hxs] at h2
        simp only [List.getElem?_map, Option.map_eq_some_iff, DataW.lit.injEq, Lit.string.injEq] at h2
        obtain ⟨z', hz', e⟩ := h2
        have e3 : bytesOf z' = s := by rw [e]; simp [bytesOf]
        simp [h1, hz', e3]
      · rw [List.getElem?_eq_none (by omega), List.getElem?_eq_none (by simp; omega)]
    · cases h
theorem marks_g : Tryd.prog.globalNamed "casket/lex.marks" = some 0 := by kernel_rfl
theorem marks_t : (Tryd.prog.globals[0]?).map (·.type) = some 62 := by kernel_rfl
theorem marks_u : ∃ e, Tryd.prog.underlying 62 = some (.array 29 e) ∧ Tryd.prog.underlying e = some .string ∧ Tryd.prog.cellsOf e = 1 ∧ Tryd.prog.cellsOf 62 = 29 := ⟨9, by kernel_rfl, by kernel_rfl, by kernel_rfl, by kernel_rfl⟩
theorem marks_d {H : Type} : (Rows.laid_casket_lex_marks : DataW H) = .agg (marks.map fun b => .lit (.string b)) := rfl
theorem marks_in {W : World} {cs : Array Value} (h : W.var? Tryd.prog "casket/lex.marks" = some cs) (hc : cs.toList = marks.map fun m => Value.string (bytesOf m)) : MarksIn W := by
  have e : cs = marksV := by
    apply Array.ext'
    rw [hc, marks_all]
  subst e
  unfold World.var? at h
  rw [marks_g] at h
  simp only [Option.bind_some] at h
  split at h
  · rename_i c ty fr hh
    injection h with h
    subst h
    exact ⟨ty, fr, hh⟩
  · cases h
theorem g64 : Tryd.prog.globalNamed "math/bits.deBruijn64tab" = some 1 := by kernel_rfl
theorem t64 : (Tryd.prog.globals[1]?).map (·.type) = some 85 := by kernel_rfl
theorem u64t : ∃ e, Tryd.prog.underlying 85 = some (.array 64 e) ∧ Tryd.prog.underlying e = some (.int .u8) ∧ Tryd.prog.cellsOf e = 1 ∧ Tryd.prog.cellsOf 85 = 64 := ⟨5, by kernel_rfl, by kernel_rfl, by kernel_rfl, by kernel_rfl⟩
theorem tab64 {H : Type} : (Rows.laid_math_bits_deBruijn64tab : DataW H) = Lib.tabData .u8 (Lib.deBruijn64tab.map fun n : Nat => (n : Int)) := rfl
theorem own : ownKnob Tryd.prog.godebug = none := by kernel_rfl
/-- two variables -/
def laidV : List (String × DataW Unit) := [("math/bits.deBruijn64tab", Rows.laid_math_bits_deBruijn64tab), ("casket/lex.marks", Rows.laid_casket_lex_marks)]
set_option maxRecDepth 100000 in
theorem door_met (os : Os) (args : Array Value) : laidMetH Tryd.prog laidV ((World.doorLaid Tryd.prog 400 os).forCall (fun _ _ => 0) ⟨#[], args, []⟩).memory :=
  laidMetH_of_parts3 (fuel := 8) (laidMet_of_run' 8 (by kernel_rfl) (by kernel_rfl)) (by kernel_rfl) (by kernel_rfl)
/-- two -/
theorem of_laid {W : World} (h : laidMetH Tryd.prog laidV W) : Tabs W ∧ MarksIn W := by
  rw [MakeChecks.laidMetH_plain _ _ _ (by kernel_rfl)] at h
  obtain ⟨ps, ⟨g1, t1, cs1, f1, p1, q1, hg1, ht1, hv1, hd1, ⟨g3, t3, cs3, f3, p3, q3, hg3, ht3, hv3, hd3, _, _⟩, _⟩, _, _⟩ := h
  obtain rfl := Option.some.inj (g64.symm.trans hg1)
  obtain rfl := Option.some.inj (marks_g.symm.trans hg3)
  obtain rfl := Option.some.inj (t64.symm.trans ht1)
  obtain rfl := Option.some.inj (marks_t.symm.trans ht3)
  obtain ⟨e1, a1, a2, a3, a4⟩ := u64t
  obtain ⟨e3, c1, c2, c3, c4⟩ := marks_u
  rw [tab64] at hd1
  rw [marks_d] at hd3
  have k1 := Lib.cells_of_tab a1 a2 a3 a4 hd1
  have k3 := cells_of_strs c1 c2 c3 c4 hd3
  refine ⟨fun j hj => ?_, marks_in hv3 k3⟩
  have := World.var?_cell hg1 hv1 j
  rw [this]
  have e : cs1[j]? = cs1.toList[j]? := by simp
  rw [e, k1, List.getElem?_map, List.getElem?_map, List.getElem?_eq_getElem hj]
  simp [List.getD_eq_getElem?_getD, List.getElem?_eq_getElem hj]
end Go.Proofs.YtdoojooepkdlhaaDoor.W
/- Chapter 11 in plain words: the texts of numbers are one piece each. -/
namespace Go.Proofs.YtdoojooepkdlhaaDoor.W
set_option linter.unusedVariables false
theorem run_all (p : UInt8 → Bool) (l : List UInt8) (h : ∀ c ∈ l, p c = true) : runN p l = l.length := by
  induction l with
  | nil => rfl
  | cons c r ih => rw [runN_cons_t (h c (by simp)), ih (fun x hx => h x (by simp [hx]))]; rfl
theorem orPc_none {a b : Pc} (h : a.size = 0) : orPc a b = b := if_pos h
theorem orPc_some {a b : Pc} (h : ¬ a.size = 0) : orPc a b = a := if_neg h
theorem gap_none (c : UInt8) (r : List UInt8) (h1 : c ≠ 35) (h2 : blankB c = false) : (gapP (c :: r)).size = 0 := by
  show gapN (c :: r) = 0
  unfold gapN
  rw [if_neg (by intro h; injection h with h; exact h1 h), runN_cons_f h2]
theorem dig_facts (c : UInt8) (h : digB c = true) : c ≠ 35 ∧ blankB c = false ∧ c ≠ 120 ∧ c ≠ 34 := by
  have all : ∀ n : Fin 256, digB (UInt8.ofNat n) = true → UInt8.ofNat n ≠ 35 ∧ blankB (UInt8.ofNat n) = false ∧ UInt8.ofNat n ≠ 120 ∧ UInt8.ofNat n ≠ 34 := by decide +kernel
  have := all ⟨c.toNat, c.toNat_lt⟩
  simpa using this (by simpa using h)
theorem piece_digits (l : List UInt8) (hd : ∀ c ∈ l, digB c = true) (hn : l ≠ []) : pieceP l = if (readI l).2 = 0 then okPc ⟨4, ⟨#[]⟩, (readI l).1, 0⟩ l.length else badPc l.length 62 := by
  cases l with
  | nil => exact absurd rfl hn
  | cons c r =>
    obtain ⟨f1, f2, f3, f4⟩ := dig_facts c (hd c (by simp))
    have g1 := gap_none c r f1 f2
    have g2 : nameP (c :: r) = noPc := if_pos (.inr (hd c (by simp)))
    have g3 : doubleP (c :: r) = noPc := by
      refine if_neg (fun h => ?_)
      cases r with
      | nil => cases h
      | cons d r =>
        injection h with _ h
        injection h with h
        exact (dig_facts d (hd d (by simp))).2.2.1 h
    have g4 := run_all digB (c :: r) hd
    have g5 : wholeP (c :: r) = if (readI (c :: r)).2 = 0 then okPc ⟨4, ⟨#[]⟩, (readI (c :: r)).1, 0⟩ (c :: r).length else badPc (c :: r).length 62 := by
      unfold wholeP
      rw [g4, if_neg (by simp), List.take_length]
    unfold pieceP
    rw [orPc_none g1, g2, orPc_none (show noPc.size = 0 from rfl), g3, orPc_none (show noPc.size = 0 from rfl), orPc_some, g5]
    rw [g5]
    split <;> simp [okPc, badPc]
theorem piece_minus (r : List UInt8) : pieceP (45 :: r) = okPc ⟨3, bytesOf [45], 0, 0⟩ 1 := by
  have g1 := gap_none 45 r (by decide) (by decide)
  have g2 : nameP (45 :: r) = noPc := if_pos (.inl (runN_cons_f (by decide)))
  have g3 : doubleP (45 :: r) = noPc := by
    refine if_neg (fun h => ?_)
    cases r with
    | nil => cases h
    | cons d r => injection h with h; exact absurd h (by decide)
  have g4 : wholeP (45 :: r) = noPc := if_pos (runN_cons_f (by decide))
  have g5 : quotedP (45 :: r) = noPc := if_neg (by intro h; injection h with h; exact absurd h (by decide))
  have g6 : markP (45 :: r) = okPc ⟨3, bytesOf [45], 0, 0⟩ 1 := by
    have e : marks.find? (fun m => (45 :: r).take m.length == m) = some [45] := by
      simp [marks, List.find?]
    unfold markP
    rw [e]
    rfl
  unfold pieceP
  rw [orPc_none g1, g2, orPc_none (show noPc.size = 0 from rfl), g3, orPc_none (show noPc.size = 0 from rfl), g4, orPc_none (show noPc.size = 0 from rfl), g5, orPc_none (show noPc.size = 0 from rfl), g6]
theorem piece_inf : pieceP infT = okPc ⟨5, ⟨#[]⟩, 0, 9218868437227405312⟩ 3 := rfl
theorem piece_nan : pieceP nanT = okPc ⟨5, ⟨#[]⟩, 0, 9221120237041090560⟩ 3 := rfl
end Go.Proofs.YtdoojooepkdlhaaDoor.W
/- Chapter 11 in plain words: a token hangs on its own bytes and on the next one alone. -/
namespace Go.Proofs.YtdoojooepkdlhaaDoor.W
set_option linter.unusedVariables false
/-- what may stand in Y's place: nothing, a line's end, or what begins as Y does -/
def Likes (Y Z : List UInt8) : Prop := Z = [] ∨ Z.head? = some 10 ∨ Z.head? = Y.head?
theorem Likes.stop {Y Z : List UInt8} (h : Likes Y Z) {p : UInt8 → Bool} (h10 : p 10 = false) (hy : ∀ c, Y.head? = some c → p c = false) : ∀ c, Z.head? = some c → p c = false := by
  intro c hc
  rcases h with rfl | h | h
  · cases hc
  · rw [h] at hc; injection hc with hc; rw [← hc]; exact h10
  · rw [h] at hc; exact hy c hc
theorem run_split (p : UInt8 → Bool) (x Y : List UInt8) (h : runN p (x ++ Y) = x.length) : (∀ c ∈ x, p c = true) ∧ ∀ c, Y.head? = some c → p c = false := by
  induction x with
  | nil =>
    refine ⟨fun c hc => by simp at hc, fun c hc => ?_⟩
    cases Y with
    | nil => cases hc
    | cons d Y =>
      injection hc with hc
      subst hc
      cases e : p d
      · rfl
      · rw [List.nil_append, runN_cons_t e] at h; simp at h
  | cons d x ih =>
    cases e : p d
    · rw [List.cons_append, runN_cons_f e] at h; simp at h
    · rw [List.cons_append, runN_cons_t e] at h
      obtain ⟨h1, h2⟩ := ih (by simpa using h)
      refine ⟨fun c hc => ?_, h2⟩
      rcases List.mem_cons.1 hc with rfl | hc
      · exact e
      · exact h1 c hc
theorem run_join (p : UInt8 → Bool) (x Z : List UInt8) (h : ∀ c ∈ x, p c = true) (hz : ∀ c, Z.head? = some c → p c = false) : runN p (x ++ Z) = x.length := by
  induction x with
  | nil =>
    cases Z with
    | nil => rfl
    | cons d Z => exact runN_cons_f (hz d rfl)
  | cons d x ih =>
    rw [List.cons_append, runN_cons_t (h d (by simp)), ih (fun c hc => h c (by simp [hc]))]
    rfl
theorem run_like (p : UInt8 → Bool) (x Y Z : List UInt8) (hL : Likes Y Z) (h10 : p 10 = false) (h : runN p (x ++ Y) = x.length) : runN p (x ++ Z) = x.length := by
  obtain ⟨h1, h2⟩ := run_split p x Y h
  exact run_join p x Z h1 (hL.stop h10 h2)
theorem take_app (x Z : List UInt8) : (x ++ Z).take x.length = x := by simp
theorem run_zero (p : UInt8 → Bool) (c : UInt8) (r q : List UInt8) (h : runN p (c :: r) = 0) : runN p (c :: q) = 0 := by
  cases e : p c
  · exact runN_cons_f e
  · rw [runN_cons_t e] at h; omega
theorem gap_like (c : UInt8) (x Y Z : List UInt8) (h : (gapP (c :: x ++ Y)).size = 0) : (gapP (c :: x ++ Z)).size = 0 := by
  have h' : gapN (c :: (x ++ Y)) = 0 := h
  show gapN (c :: (x ++ Z)) = 0
  have hd : ∀ Q : List UInt8, (c :: (x ++ Q)).head? = some 35 ↔ c = 35 := fun Q => by simp
  unfold gapN at h' ⊢
  by_cases g : c = 35
  · rw [if_pos ((hd _).2 g)] at h' ⊢
    exact run_zero _ _ _ _ h'
  · rw [if_neg (fun e => g ((hd _).1 e))] at h' ⊢
    exact run_zero _ _ _ _ h'
theorem name_like (c : UInt8) (x Y Z : List UInt8) (hL : Likes Y Z) : ((nameP (c :: x ++ Y)).size = 0 → (nameP (c :: x ++ Z)).size = 0) ∧ (¬ (nameP (c :: x ++ Y)).size = 0 → (nameP (c :: x ++ Y)).size = (c :: x).length → nameP (c :: x ++ Z) = nameP (c :: x ++ Y)) := by
  have cn : ∀ Q : List UInt8, (runN nameB (c :: x ++ Q) = 0 ∨ headB digB (c :: x ++ Q) = true) ↔ (nameB c = false ∨ digB c = true) := by
    intro Q
    have e : headB digB (c :: x ++ Q) = digB c := rfl
    rw [e]
    constructor
    · rintro (h | h)
      · left
        cases e : nameB c
        · rfl
        · rw [List.cons_append, runN_cons_t e] at h; omega
      · exact .inr h
    · rintro (h | h)
      · exact .inl (runN_cons_f h)
      · exact .inr h
  by_cases k : nameB c = false ∨ digB c = true
  · have z : ∀ Q, nameP (c :: x ++ Q) = noPc := fun Q => by unfold nameP; exact if_pos ((cn Q).2 k)
    rw [z Y, z Z]
    exact ⟨fun _ => rfl, fun _ _ => rfl⟩
  · have z : ∀ Q, nameP (c :: x ++ Q) = if 31 < runN nameB (c :: x ++ Q) then badPc (runN nameB (c :: x ++ Q)) 63 else okPc (namedT ((c :: x ++ Q).take (runN nameB (c :: x ++ Q)))) (runN nameB (c :: x ++ Q)) := fun Q => by unfold nameP; exact if_neg (fun h => k ((cn Q).1 h))
    have sz : ∀ Q, (nameP (c :: x ++ Q)).size = runN nameB (c :: x ++ Q) := fun Q => by rw [z Q]; split <;> rfl
    refine ⟨fun h => ?_, fun _ h => ?_⟩
    · rw [sz] at h
      exact absurd ((cn Y).1 (.inl h)) k
    · rw [sz] at h
      have h2 := run_like nameB (c :: x) Y Z hL (by decide) h
      rw [z Z, z Y, h, h2, take_app, take_app]
theorem whole_like (c : UInt8) (x Y Z : List UInt8) (hL : Likes Y Z) : ((wholeP (c :: x ++ Y)).size = 0 → (wholeP (c :: x ++ Z)).size = 0) ∧ (¬ (wholeP (c :: x ++ Y)).size = 0 → (wholeP (c :: x ++ Y)).size = (c :: x).length → wholeP (c :: x ++ Z) = wholeP (c :: x ++ Y)) := by
  have sz : ∀ Q : List UInt8, (wholeP Q).size = runN digB Q := fun Q => by
    unfold wholeP
    split
    · rename_i h; rw [h]; rfl
    · split <;> rfl
  refine ⟨fun h => ?_, fun h0 h => ?_⟩
  · rw [sz] at h ⊢
    exact run_zero _ _ _ _ h
  · rw [sz] at h h0
    have h2 := run_like digB (c :: x) Y Z hL (by decide) h
    unfold wholeP
    rw [if_neg h0, if_neg (by rw [h2]; simp), h, h2, take_app, take_app]
theorem pow_like (x Y Z : List UInt8) (hL : Likes Y Z) (h : powN (x ++ Y) = x.length) : powN (x ++ Z) = x.length := by
  cases x with
  | nil =>
    have hz : Z.head? ≠ some 112 := by
      rcases hL with rfl | hl | hl
      · simp
      · rw [hl]; decide
      · rw [hl]
        cases Y with
        | nil => simp
        | cons d Y =>
          intro e
          injection e with e
          subst e
          rw [List.nil_append] at h
          unfold powN at h
          split at h <;> simp_all <;> omega
    cases Z with
    | nil => rfl
    | cons d Z =>
      have hd : d ≠ 112 := fun e => hz (by rw [e]; rfl)
      show powN (d :: Z) = 0
      unfold powN
      split <;> simp_all
  | cons c x =>
    have hc : c = 112 := by
      by_cases e : c = 112
      · exact e
      · rw [List.cons_append] at h
        unfold powN at h
        split at h <;> simp_all
    subst hc
    cases x with
    | nil =>
      have hy : ∀ d, Y.head? = some d → d ≠ 43 ∧ d ≠ 45 ∧ digB d = false := by
        intro d hd
        cases Y with
        | nil => cases hd
        | cons e Y =>
          injection hd with hd
          subst hd
          have h1 : powN (112 :: e :: Y) = 1 := h
          refine ⟨?_, ?_, ?_⟩
          · rintro rfl; unfold powN at h1; simp at h1; omega
          · rintro rfl; unfold powN at h1; simp at h1; omega
          · cases g : digB e
            · rfl
            · by_cases e1 : e = 43
              · subst e1; unfold powN at h1; simp at h1; omega
              · by_cases e2 : e = 45
                · subst e2; unfold powN at h1; simp at h1; omega
                · have : powN (112 :: e :: Y) = 1 + runN digB (e :: Y) := by unfold powN; split <;> simp_all
                  rw [this, runN_cons_t g] at h1
                  omega
      show powN (112 :: Z) = 1
      cases Z with
      | nil => rfl
      | cons e Z =>
        have hz : e ≠ 43 ∧ e ≠ 45 ∧ digB e = false := by
          rcases hL with hl | hl | hl
          · cases hl
          · injection hl with hl; subst hl; decide
          · exact hy e hl.symm
        have : powN (112 :: e :: Z) = 1 + runN digB (e :: Z) := by unfold powN; split <;> simp_all
        rw [this, runN_cons_f hz.2.2]
    | cons d x =>
      by_cases e1 : d = 43
      · subst e1
        have a1 : ∀ Q, powN (112 :: 43 :: (x ++ Q)) = 2 + runN digB (x ++ Q) := fun Q => rfl
        have h' : 2 + runN digB (x ++ Y) = x.length + 2 := h
        show 2 + runN digB (x ++ Z) = x.length + 2
        rw [run_like digB x Y Z hL (by decide) (by omega)]
        omega
      · by_cases e2 : d = 45
        · subst e2
          have h' : 2 + runN digB (x ++ Y) = x.length + 2 := h
          show 2 + runN digB (x ++ Z) = x.length + 2
          rw [run_like digB x Y Z hL (by decide) (by omega)]
          omega
        · have a1 : ∀ Q, powN (112 :: d :: (x ++ Q)) = 1 + runN digB (d :: x ++ Q) := fun Q => by unfold powN; split <;> simp_all
          have h' : powN (112 :: d :: (x ++ Y)) = x.length + 2 := h
          show powN (112 :: d :: (x ++ Z)) = x.length + 2
          rw [a1] at h' ⊢
          have e3 : (d :: x).length = x.length + 1 := rfl
          rw [run_like digB (d :: x) Y Z hL (by decide) (by omega)]
          omega
theorem dbl_like (x Y Z : List UInt8) (hL : Likes Y Z) (hx : 2 ≤ x.length) (h : dblN (x ++ Y) = x.length) : dblN (x ++ Z) = x.length := by
  unfold dblN at h ⊢
  have d2 : ∀ Q, (x ++ Q).drop 2 = x.drop 2 ++ Q := fun Q => List.drop_append_of_le_length hx
  rw [d2] at h ⊢
  have hle := runN_le hexPB (x.drop 2 ++ Y)
  obtain ⟨n, hn⟩ : ∃ n, runN hexPB (x.drop 2 ++ Y) = n := ⟨_, rfl⟩
  rw [hn] at h
  have hnx : n ≤ (x.drop 2).length := by rw [List.length_drop]; omega
  have dn : ∀ Q, (x ++ Q).drop (2 + n) = x.drop (2 + n) ++ Q := fun Q => List.drop_append_of_le_length (by rw [List.length_drop] at hnx; omega)
  rw [dn] at h
  have hp : powN (x.drop (2 + n) ++ Y) = (x.drop (2 + n)).length := by rw [List.length_drop]; omega
  have hz : runN hexPB (x.drop 2 ++ Z) = n := by
    by_cases c : n = (x.drop 2).length
    · rw [c] at hn ⊢
      exact run_like hexPB _ Y Z hL (by decide) hn
    · have hlt : n < (x.drop 2).length := by omega
      have sp : ∀ Q : List UInt8, x.drop 2 ++ Q = (x.drop 2).take n ++ ((x.drop 2).drop n ++ Q) := fun Q => by rw [← List.append_assoc, List.take_append_drop]
      have tl : ((x.drop 2).take n).length = n := by rw [List.length_take]; omega
      have h1 := hn
      rw [sp Y] at h1
      obtain ⟨a1, a2⟩ := run_split hexPB _ _ (by rw [tl]; exact h1)
      rw [sp Z]
      rw [run_join hexPB _ _ a1 ?_, tl]
      intro c hc
      apply a2
      cases hq : (x.drop 2).drop n with
      | nil => have := congrArg List.length hq; rw [List.length_drop, List.length_drop, List.length_nil] at this; rw [List.length_drop] at hlt; omega
      | cons d q => rw [hq] at hc; exact hc
  rw [hz, dn, pow_like _ Y Z hL hp, List.length_drop]
  rw [List.length_drop] at hnx
  omega
theorem two_like (c : UInt8) (x Y Z a : List UInt8) (hL : Likes Y Z) (h10 : (10 : UInt8) ∉ a) (ha : a.length ≤ 2) (h : (c :: x ++ Z).take a.length = a) : (c :: x ++ Y).take a.length = a := by
  match a, ha with
  | [], _ => rfl
  | [d], _ => exact h
  | [d, e], _ =>
    cases x with
    | cons b x => exact h
    | nil =>
      have h' : c :: Z.take 1 = [d, e] := h
      injection h' with h1 h2
      show c :: Y.take 1 = [d, e]
      rw [h1]
      congr 1
      rcases hL with rfl | hl | hl
      · simp at h2
      · cases Z with
        | nil => cases hl
        | cons z Z =>
          injection hl with hl
          simp at h2
          exact absurd (by rw [← h2, hl]; simp) h10
      · cases Z with
        | nil => simp at h2
        | cons z Z =>
          simp at h2
          cases Y with
          | nil => cases hl
          | cons y Y =>
            injection hl with hl
            simp [← hl, h2]
theorem double_like (c : UInt8) (x Y Z : List UInt8) (hL : Likes Y Z) : ((doubleP (c :: x ++ Y)).size = 0 → (doubleP (c :: x ++ Z)).size = 0) ∧ (¬ (doubleP (c :: x ++ Y)).size = 0 → (doubleP (c :: x ++ Y)).size = (c :: x).length → doubleP (c :: x ++ Z) = doubleP (c :: x ++ Y)) := by
  have sz : ∀ Q : List UInt8, Q.take 2 = hexT → (doubleP Q).size = dblN Q := fun Q h => by unfold doubleP; rw [if_pos h]; split <;> rfl
  have no : ∀ Q : List UInt8, ¬ Q.take 2 = hexT → doubleP Q = noPc := fun Q h => by unfold doubleP; rw [if_neg h]
  have back : (c :: x ++ Z).take 2 = hexT → (c :: x ++ Y).take 2 = hexT := two_like c x Y Z hexT hL (by decide) (by decide)
  have dpos : ∀ Q : List UInt8, ¬ dblN Q = 0 := fun Q => by unfold dblN; omega
  by_cases k : (c :: x ++ Y).take 2 = hexT
  · refine ⟨fun h => absurd ((sz _ k).symm.trans h) (dpos _), fun _ h => ?_⟩
    rw [sz _ k] at h
    have h2 : 2 ≤ (c :: x).length := by rw [← h]; unfold dblN; omega
    have e2 : ∀ Q : List UInt8, (c :: x ++ Q).take 2 = (c :: x).take 2 := fun Q => List.take_append_of_le_length h2
    have kz : (c :: x ++ Z).take 2 = hexT := by rw [e2] at k ⊢; exact k
    have hz := dbl_like (c :: x) Y Z hL h2 h
    unfold doubleP
    rw [if_pos k, if_pos kz, h, hz, take_app, take_app]
  · have kz : ¬ (c :: x ++ Z).take 2 = hexT := fun h => k (back h)
    rw [no _ k, no _ kz]
    exact ⟨fun _ => rfl, fun _ _ => rfl⟩
theorem spelt_like (x Y Z : List UInt8) (h : (speltP (x ++ Y)).2 < x.length) (h0 : (speltP (x ++ Y)).2 ≠ 0) : speltP (x ++ Z) = speltP (x ++ Y) := by
  match x with
  | [] => simp at h
  | [c] =>
    have e : (speltP (c :: Y)).2 = 0 := by
      have : (speltP (c :: Y)).2 < 1 := h
      omega
    exact absurd e h0
  | c :: d :: q =>
    rw [List.cons_append, List.cons_append] at h h0 ⊢
    rw [List.cons_append, List.cons_append]
    by_cases a : c.toNat < 32 ∨ 126 < c.toNat
    · have e : ∀ Q, speltP (c :: d :: (q ++ Q)) = (0, 0) := fun Q => by unfold speltP; dsimp only; rw [if_pos a]
      rw [e, e]
    · by_cases b : c = 92
      · subst b
        by_cases d1 : d = 92 ∨ d = 34 ∨ d = 110
        · rcases d1 with rfl | rfl | rfl <;> rfl
        · by_cases d4 : d = 120
          · subst d4
            match q with
            | [] =>
              exfalso
              have hs : (speltP (92 :: 120 :: ([] ++ Y))).2 = 0 ∨ (speltP (92 :: 120 :: ([] ++ Y))).2 = 4 := by
                match Y with
                | [] => exact .inl rfl
                | [h1] => exact .inl rfl
                | h1 :: h2 :: Y =>
                  show (if hexB h1 = true ∧ hexB h2 = true then _ else ((0, 0) : Nat × Nat)).2 = 0 ∨ (if hexB h1 = true ∧ hexB h2 = true then ((16 * hexV h1 + hexV h2).toNat, 4) else ((0, 0) : Nat × Nat)).2 = 4
                  split
                  · exact .inr rfl
                  · exact .inl rfl
              rcases hs with hs | hs
              · exact h0 hs
              · rw [hs] at h; simp at h
            | [h1] =>
              exfalso
              have hs : (speltP (92 :: 120 :: ([h1] ++ Y))).2 = 0 ∨ (speltP (92 :: 120 :: ([h1] ++ Y))).2 = 4 := by
                match Y with
                | [] => exact .inl rfl
                | h2 :: Y =>
                  show (if hexB h1 = true ∧ hexB h2 = true then _ else ((0, 0) : Nat × Nat)).2 = 0 ∨ (if hexB h1 = true ∧ hexB h2 = true then ((16 * hexV h1 + hexV h2).toNat, 4) else ((0, 0) : Nat × Nat)).2 = 4
                  split
                  · exact .inr rfl
                  · exact .inl rfl
              rcases hs with hs | hs
              · exact h0 hs
              · rw [hs] at h; simp at h
            | h1 :: h2 :: q => rfl
          · exfalso
            apply h0
            obtain ⟨k1, k2, k3, k4, k5⟩ := (spelt_esc (d :: (q ++ Y))).2 d (q ++ Y) rfl
            rw [k5 (fun e => d1 (.inl e)) (fun e => d1 (.inr (.inl e))) (fun e => d1 (.inr (.inr e))) d4]
      · have e : ∀ Q, speltP (c :: d :: (q ++ Q)) = (c.toNat, 1) := fun Q => (spelt_head c (d :: (q ++ Q))).2 a b
        rw [e, e]
theorem ok_bad {n m : Nat} {t : Tk} (h : badPc n 61 = okPc t m) : False := by
  have := congrArg Pc.code h
  exact absurd (show (61 : Int) = 0 from this) (by decide)
theorem quote_big : ∀ (f : Nat) (r : List UInt8) (k m : Nat) (acc : List UInt8) (t : Tk), quoteGo f r k acc = okPc t m → k < m
  | 0, r, k, m, acc, t, h => (ok_bad (n := k) (m := m) (t := t) (by simpa [quoteGo] using h)).elim
  | f + 1, [], k, m, acc, t, h => (ok_bad ((quote_end (f + 1) k acc).symm.trans h)).elim
  | f + 1, c :: q, k, m, acc, t, h => by
    by_cases c1 : c = 34
    · have := (quote_stop (f + 1) k c q acc (by omega) c1).symm.trans h
      have e := congrArg Pc.size this
      have e' : k + 1 = m := e
      omega
    · by_cases c2 : (speltP (c :: q)).2 = 0
      · exact (ok_bad ((quote_bad (f + 1) k c q acc (by omega) c1 c2).symm.trans h)).elim
      · have := quote_big f _ _ m _ t ((quote_on f k c q acc c1 c2).symm.trans h)
        omega
theorem quote_ge : ∀ (f : Nat) (r : List UInt8) (k : Nat) (acc : List UInt8), k ≤ (quoteGo f r k acc).size
  | 0, r, k, acc => by unfold quoteGo; exact Nat.le_refl _
  | f + 1, [], k, acc => by rw [quote_end]; exact Nat.le_refl _
  | f + 1, c :: q, k, acc => by
    by_cases c1 : c = 34
    · rw [quote_stop (f + 1) k c q acc (by omega) c1]
      exact Nat.le_succ _
    · by_cases c2 : (speltP (c :: q)).2 = 0
      · rw [quote_bad (f + 1) k c q acc (by omega) c1 c2]
        exact Nat.le_refl _
      · rw [quote_on f k c q acc c1 c2]
        exact Nat.le_trans (Nat.le_add_right _ _) (quote_ge f _ _ _)
theorem quote_like (n : Nat) : ∀ (f f' : Nat) (x Y Z acc : List UInt8) (k m : Nat) (t : Tk), x.length ≤ n → m = k + x.length → quoteGo f (x ++ Y) k acc = okPc t m → x.length ≤ f' → quoteGo f' (x ++ Z) k acc = okPc t m := by
  induction n with
  | zero =>
    intro f f' x Y Z acc k m t hx hm h hf
    have := quote_big f _ k m acc t h
    omega
  | succ n ih =>
    intro f f' x Y Z acc k m t hx hm h hf
    have hb := quote_big f _ k m acc t h
    cases x with
    | nil => simp at hm; omega
    | cons c x =>
      cases f with
      | zero => exact (ok_bad (n := k) (m := m) (t := t) (by simpa [quoteGo] using h)).elim
      | succ f =>
        cases f' with
        | zero => simp at hf
        | succ f' =>
          rw [List.cons_append] at h ⊢
          by_cases c1 : c = 34
          · rw [quote_stop (f + 1) k c _ acc (by omega) c1] at h
            rw [quote_stop (f' + 1) k c _ acc (by omega) c1]
            exact h
          · by_cases c2 : (speltP (c :: (x ++ Y))).2 = 0
            · exact (ok_bad ((quote_bad (f + 1) k c (x ++ Y) acc (by omega) c1 c2).symm.trans h)).elim
            · rw [quote_on f k c (x ++ Y) acc c1 c2] at h
              have hb2 := quote_big f _ _ m _ t h
              have hlt : (speltP (c :: x ++ Y)).2 < (c :: x).length := by
                show (speltP (c :: (x ++ Y))).2 < (c :: x).length
                omega
              have es : speltP (c :: (x ++ Z)) = speltP (c :: (x ++ Y)) := spelt_like (c :: x) Y Z hlt c2
              rw [quote_on f' k c (x ++ Z) acc c1 (by rw [es]; exact c2), es]
              obtain ⟨s, hs⟩ : ∃ s, speltP (c :: (x ++ Y)) = s := ⟨_, rfl⟩
              have hlt' : s.2 < (c :: x).length := by rw [← hs]; exact hlt
              rw [hs] at h hb2 c2 ⊢
              have dr : ∀ Q : List UInt8, (c :: (x ++ Q)).drop s.2 = (c :: x).drop s.2 ++ Q := fun Q => by
                rw [← List.cons_append]
                exact List.drop_append_of_le_length (by omega)
              rw [dr] at h ⊢
              exact ih f f' _ Y Z _ _ m t (by rw [List.length_drop]; omega) (by rw [List.length_drop]; omega) h (by rw [List.length_drop]; omega)
theorem quoted_like (c : UInt8) (x Y Z : List UInt8) : ((quotedP (c :: x ++ Y)).size = 0 → (quotedP (c :: x ++ Z)).size = 0) ∧ (∀ t, quotedP (c :: x ++ Y) = okPc t (c :: x).length → quotedP (c :: x ++ Z) = okPc t (c :: x).length) := by
  have hd : ∀ Q : List UInt8, (c :: x ++ Q).head? = some 34 ↔ c = 34 := fun Q => by simp
  by_cases k : c = 34
  · have e : ∀ Q : List UInt8, quotedP (c :: x ++ Q) = quoteGo (c :: x ++ Q).length (x ++ Q) 1 [] := fun Q => by unfold quotedP; rw [if_pos ((hd Q).2 k)]; rfl
    refine ⟨fun h0 => ?_, fun t h => ?_⟩
    · rw [e] at h0
      have := quote_ge (c :: x ++ Y).length (x ++ Y) 1 []
      omega
    · rw [e] at h ⊢
      have e1 : (c :: x).length = 1 + x.length := by simp; omega
      exact quote_like x.length _ _ x Y Z [] 1 _ t (Nat.le_refl _) e1 h (by simp; omega)
  · have e : ∀ Q : List UInt8, quotedP (c :: x ++ Q) = noPc := fun Q => by unfold quotedP; exact if_neg (fun h => k ((hd Q).1 h))
    rw [e, e]
    exact ⟨fun _ => rfl, fun _ h => h⟩
theorem mark_like (c : UInt8) (x Y Z : List UInt8) (hL : Likes Y Z) (t : Tk) (h : markP (c :: x ++ Y) = okPc t (c :: x).length) : markP (c :: x ++ Z) = okPc t (c :: x).length := by
  unfold markP at h ⊢
  have m10 : ∀ m ∈ marks, (10 : UInt8) ∉ m ∧ m.length ≤ 2 := by decide
  cases hf : marks.find? (fun m => (c :: x ++ Y).take m.length == m) with
  | none => rw [hf] at h; have := congrArg Pc.size h; simp [noPc, okPc] at this
  | some m =>
    rw [hf] at h
    have hsz : m.length = (c :: x).length := congrArg Pc.size h
    obtain ⟨hp, as', bs, hl, hn⟩ := List.find?_eq_some_iff_append.1 hf
    have hz : marks.find? (fun m => (c :: x ++ Z).take m.length == m) = some m := by
      rw [List.find?_eq_some_iff_append]
      refine ⟨?_, as', bs, hl, fun a ha => ?_⟩
      · rw [beq_iff_eq] at hp ⊢
        rw [hsz, take_app] at hp ⊢
        exact hp
      · have hna := hn a ha
        have ham : a ∈ marks := by rw [hl]; simp [ha]
        cases g : ((c :: x ++ Z).take a.length == a)
        · rfl
        · exfalso
          have := two_like c x Y Z a hL (m10 a ham).1 (m10 a ham).2 (by simpa using g)
          rw [this] at hna
          simp at hna
    rw [hz]
    exact h
/-- a token hangs on its own bytes and the next one -/
theorem piece_like (x Y Z : List UInt8) (hL : Likes Y Z) (t : Tk) (hx : x ≠ []) (hk : t.kind ≠ 0) (h : pieceP (x ++ Y) = okPc t x.length) : pieceP (x ++ Z) = okPc t x.length := by
  cases x with
  | nil => exact absurd rfl hx
  | cons c x =>
    have hpos : ¬ (c :: x).length = 0 := by simp
    unfold pieceP at h ⊢
    by_cases g1 : (gapP (c :: x ++ Y)).size = 0
    · rw [orPc_none g1] at h
      rw [orPc_none (gap_like c x Y Z g1)]
      by_cases g2 : (nameP (c :: x ++ Y)).size = 0
      · rw [orPc_none g2] at h
        rw [orPc_none ((name_like c x Y Z hL).1 g2)]
        by_cases g3 : (doubleP (c :: x ++ Y)).size = 0
        · rw [orPc_none g3] at h
          rw [orPc_none ((double_like c x Y Z hL).1 g3)]
          by_cases g4 : (wholeP (c :: x ++ Y)).size = 0
          · rw [orPc_none g4] at h
            rw [orPc_none ((whole_like c x Y Z hL).1 g4)]
            by_cases g5 : (quotedP (c :: x ++ Y)).size = 0
            · rw [orPc_none g5] at h
              rw [orPc_none ((quoted_like c x Y Z).1 g5)]
              exact mark_like c x Y Z hL t h
            · rw [orPc_some g5] at h
              have := (quoted_like c x Y Z).2 t h
              rw [orPc_some (by rw [this]; exact hpos), this]
          · rw [orPc_some g4] at h
            have := (whole_like c x Y Z hL).2 g4 (congrArg Pc.size h)
            rw [orPc_some (by rw [this]; exact g4), this, h]
        · rw [orPc_some g3] at h
          have := (double_like c x Y Z hL).2 g3 (congrArg Pc.size h)
          rw [orPc_some (by rw [this]; exact g3), this, h]
      · rw [orPc_some g2] at h
        have := (name_like c x Y Z hL).2 g2 (congrArg Pc.size h)
        rw [orPc_some (by rw [this]; exact g2), this, h]
    · rw [orPc_some g1] at h
      exfalso
      have := congrArg (fun p => p.t.kind) h
      exact hk this.symm
end Go.Proofs.YtdoojooepkdlhaaDoor.W
/- A range over an iterator whose rounds keep what is not the caller's. -/
namespace Go.Proofs.YtdoojooepkdlhaaDoor.W
open Go.ChangeShapes Go.WideShapes Go.RowKit Go.Shelf
set_option linter.unusedVariables false
/-- how the body of a round is left -/
def rndWayD (L D : Nat) (Dk : Nat → Prop) (W : World) (In : World → Prop) (Ix : Code → World → Prop) : Exit → Act → World → Prop
  | .normal, _, W' => (W'.heap[L]? = W.heap[L]? ∧ W'.heap[D]? = W.heap[D]?) ∧ (∀ k, k < W.heap.size → ¬ Dk k → W'.heap[k]? = W.heap[k]?) ∧ In W'
  | .ret, _, W' => (W'.heap[L]? = W.heap[L]? ∧ W'.heap[D]? = W.heap[D]?) ∧ Ix .ret W'
  | .exit id, _, W' => (W'.heap[L]? = W.heap[L]? ∧ W'.heap[D]? = W.heap[D]?) ∧ Ix (.exit id) W'
  | _, _, _ => False
theorem iterD_law {gf : Nat} {lb : Array Value} {vals : List (Array Value)} {G : World → Prop} (hit : IterD gf lb vals G) (eg : ∀ args w, (callFunc gf args).run Tryd.prog w = .ok (.enter gf args) w)
    {g : Operand} {ps : Array Tmp} {assign body : Code} {Q : Exit → Act → World → Prop} {a : Act} {W0 : World} (hg : a.eval g = .func (.func gf) #[] lb)
    (I : Nat → (Nat → Prop) → World → Prop) (Ix : Code → World → Prop) (hL : ∀ i D W, I i D W → G W ∧ ∀ k, D k → k < W.heap.size)
    (hI : ∀ i D W W', I i D W → It.Upd (fun k => k = W0.heap.size + 1) W W' → I i D W')
    (hIx : ∀ c W W', Ix c W → It.Upd (fun k => k = W0.heap.size + 1) W W' → Ix c W') (D0 : Nat → Prop) (h0 : I 0 D0 W0)
    (A : Nat → Act) (hsz : ∀ i (hi : i < vals.length), vals[i].size = ps.size)
    (hassign : ∀ (L i : Nat) (hi : i < vals.length) (W : World) (K : Act → World → Prop), K (A i) W → assign.wpIn (Fence.wide.inRound L) 7 Tryd.prog (Exit.then K (fun _ _ _ => False)) { tmps := (ps.zip vals[i]).foldl (fun t (p, v) => t.setIfInBounds p v) a.tmps, defers := [] } W)
    (hbody : ∀ (L : Nat) i (hi : i < vals.length) D W, L = W0.heap.size + 1 → I i D W → W0.heap.size + 2 ≤ W.heap.size → (∃ r, W.heap[L]? = some (.loop r)) → body.wpIn (Fence.wide.inRound L) 7 Tryd.prog (rndWayD L W0.heap.size D W (fun W' => ∃ D', I (i + 1) D' W') Ix) (A i) W)
    (hdone : ∀ D W, I vals.length D W → W.heap[W0.heap.size]? = some (.deferred (some [])) → Q .normal { a with defers := { target := .collected W0.heap.size, args := #[] } :: a.defers } W)
    (hstop : ∀ c W, Ix c W → W.heap[W0.heap.size]? = some (.deferred (some [])) → c.wp Tryd.prog Q { a with defers := { target := .collected W0.heap.size, args := #[] } :: a.defers } W) :
    (Code.rangeFunc g ps assign body).wp Tryd.prog Q a W0 := by
  have hUL : ∀ (W : World) (o : Obj), It.Upd (fun k => k = W0.heap.size + 1) W (W.putObj (W0.heap.size + 1) o) := fun W o => It.upd_put (S := fun k => k = W0.heap.size + 1) (L := W0.heap.size + 1) rfl o
  refine (wpIn_wide (n := 9)).1 (It.rf_law hg eg (fun W => ∃ D, I vals.length D W) Ix ?_ ?_ ?_)
  · intro r W1 hr1 hr2 hr3 hr4 hr5 hr6 hW1 hL1
    have hI1 : I 0 D0 W1 := by
      refine hI 0 D0 W0 W1 h0 ?_
      rw [hW1]; exact ((It.Upd.refl _ W0).alloc _).alloc _
    have hsz1 : W0.heap.size + 2 ≤ W1.heap.size := by rw [hW1]; simp
    have key := hit 8 (W0.heap.size + 1)
      (fun i D W => I i D W ∧ It.LoopAt W (W0.heap.size + 1) W0.heap.size r ∧ W0.heap.size + 2 ≤ W.heap.size)
      (fun W => ∃ c, Ix c W ∧ It.LoopAt W (W0.heap.size + 1) W0.heap.size { r with state := .done, pending := some c })
      (by omega) (fun i D W h => hL i D W h.1) ?_ ?_ D0 W1 ⟨hI1, hL1, hsz1⟩
    · refine key.mono ?_
      rintro e W3 ⟨hv, ⟨D', h1, h2, _⟩ | ⟨c, h1, h2⟩⟩
      · exact ⟨hv, .inl ⟨⟨D', h1⟩, r, h2, by rw [hr1]; simp, hr2⟩⟩
      · exact ⟨hv, .inr ⟨c, h1, _, h2, by simp, rfl⟩⟩
    · rintro i D W W' ⟨h1, h2, h3⟩ hb
      exact ⟨hI i D W W' h1 (It.Upd.of_below hb), h2.kept (hb.block _ (by omega)) (hb.block _ (by omega)), by have := hb.size; omega⟩
    · rintro i hi D W ⟨hi1, hl1, hs1⟩
      have hargs : vals[i].size = r.params.size := by rw [hr4]; exact hsz i hi
      refine YieldAt.mono (It.yield_law (Rn := fun W' => (∃ D', I (i + 1) D' W' ∧ It.LoopAt W' (W0.heap.size + 1) W0.heap.size r ∧ W0.heap.size + 2 ≤ W'.heap.size) ∧ (∀ k, k < W.heap.size → ¬ D k → W'.heap[k]? = W.heap[k]?)) (Rx := fun c W' => Ix c W' ∧ It.LoopAt W' (W0.heap.size + 1) W0.heap.size { r with state := .done, pending := some c }) hl1 hr1 hargs (A i) ?_ ?_) ?_
      · intro K hK
        rw [hr5, hr4, hr3]
        exact hassign _ i hi W K hK
      · intro W2 hW2 hl2
        have hI2 : I i D W2 := by rw [hW2]; exact hI i D W _ hi1 (hUL W _)
        have hs2 : W0.heap.size + 2 ≤ W2.heap.size := by rw [hW2]; simpa using hs1
        have hbd := hbody _ i hi D W2 rfl hI2 hs2 ⟨_, hl2.lp⟩
        rw [← hr6] at hbd
        refine wpIn_mono hbd ?_
        intro e a3 W3 hp
        have put : ∀ q : Loop, (W3.heap[W0.heap.size + 1]? = W2.heap[W0.heap.size + 1]? ∧ W3.heap[W0.heap.size]? = W2.heap[W0.heap.size]?) → It.LoopAt W3 (W0.heap.size + 1) W0.heap.size { r with state := .busy } ∧ It.LoopAt (W3.putObj (W0.heap.size + 1) (.loop q)) (W0.heap.size + 1) W0.heap.size q ∧ W0.heap.size + 2 ≤ (W3.putObj (W0.heap.size + 1) (.loop q)).heap.size := by
          rintro q ⟨e1, e2⟩
          have hl3 := hl2.kept e1 e2
          refine ⟨hl3, hl3.put q, ?_⟩
          have := (Array.getElem?_eq_some_iff.1 hl3.lp).1
          simp; omega
        cases e with
        | normal =>
          obtain ⟨hk, hkp, D', hin⟩ := hp
          obtain ⟨p1, p2, p4⟩ := put { r with state := .ready, pending := none } hk
          have er : ({ r with state := .ready, pending := none } : Loop) = r := by cases r; simp_all
          refine ⟨p1, ⟨D', hI _ D' W3 _ hin (hUL W3 _), ?_, p4⟩, ?_⟩
          · rw [er] at p2 ⊢
            exact p2
          · intro k hk1 hk2
            by_cases ck : k = W0.heap.size + 1
            · subst ck
              rw [er] at p2 ⊢
              rw [p2.lp, hl1.lp]
            · rw [World.putObj_heap_other ck, hkp k (by rw [hW2]; simpa using hk1) hk2, hW2, World.putObj_heap_other ck]
        | ret =>
          obtain ⟨hk, hin⟩ := hp
          obtain ⟨p1, p2, p4⟩ := put { r with state := .done, pending := some .ret } hk
          exact ⟨p1, hIx _ W3 _ hin (hUL W3 _), p2⟩
        | exit id =>
          obtain ⟨hk, hin⟩ := hp
          obtain ⟨p1, p2, p4⟩ := put { r with state := .done, pending := some (.exit id) } hk
          exact ⟨p1, hIx _ W3 _ hin (hUL W3 _), p2⟩
        | goto t => exact hp.elim
        | panic ch => exact hp.elim
        | outgrown => exact hp.elim
      · rintro e W' (⟨rfl, h1⟩ | ⟨rfl, c, h1⟩)
        · exact .inl ⟨rfl, h1.1, h1.2⟩
        · exact .inr ⟨rfl, c, h1⟩
  · intro W3 q hd hl
    obtain ⟨D', hd'⟩ := hd
    exact hdone D' _ (hI _ D' W3 _ hd' (hUL W3 _)) hl.defs
  · intro W3 q c hs hl
    exact wpIn_wide.2 (hstop c _ (hIx _ W3 _ hs (hUL W3 _)) hl.defs)
end Go.Proofs.YtdoojooepkdlhaaDoor.W
/- Package lex: the iterator of whatever source. -/
namespace Go.Proofs.YtdoojooepkdlhaaDoor.W
open Go.ChangeShapes Go.WideShapes Go.RowKit Go.Shelf
set_option linter.unusedVariables false
set_option maxHeartbeats 1000000 in
theorem toks_bigD (s : ByteArray) (hs : s.size ≤ 1000000) (sb : Nat) (big : 65536 < s.size) : IterD 11 #[.pointer (some ⟨sb, 0, none⟩)] (valsP s.data.toList) (fun W => W.cell? ⟨sb, 0, none⟩ = some (.string s) ∧ Tabs W ∧ MarksIn W) := by
  intro n l J X hn hL hB hY D0 W h0
  have ev : valsP s.data.toList = [yv noTk 0 2 0] := if_pos (by rw [size_list]; exact big)
  rw [ev] at hY ⊢
  show CallsIn Fence.wide n Tryd.prog 11 #[.func (.yield l) #[] #[], .pointer (some ⟨sb, 0, none⟩)] W fun e W' => (∃ v, e = .returned v) ∧ ((∃ D', J 1 D' W') ∨ X W')
  obtain ⟨⟨g0, -, -⟩, -⟩ := hL 0 D0 W h0
  have b1 : (s.size : Int) > 65536 := by omega
  have y1 := hY 0 (by simp) D0 W h0
  have y2 : YieldAt Fence.wide (n - 1) Tryd.prog l #[.agg #[.int .i64 0, .int .i64 0, .string ⟨#[]⟩, .int .i64 0, .int .u64 0], .agg #[.int .i64 2, .int .i64 0]] W fun e W' => (e = .returned (.bool true) ∧ (∃ D', J 1 D' W') ∧ (∀ k, k < W.heap.size → ¬ D0 k → W'.heap[k]? = W.heap[k]?)) ∨ (e = .returned (.bool false) ∧ X W') := y1
  obtain ⟨fn, tmps, assign, body, hy, hR⟩ := y2
  refine callsIn_of_wp Tryd.func11 rfl trivial ?_ rfl
  simp only [Tryd.ntmps11, List.size_toArray, List.length_cons, List.length_nil, Nat.reduceAdd, Nat.reduceSub, Array.replicate_succ, Array.replicate_zero, List.push_toArray, List.append_toArray, List.nil_append, List.cons_append]
  clear hY hL hB y1 ev
  refine wpIn_wide.2 ?_
  refine wp_scope_straight ?_
  go_upto_region 1 with fail
  refine (wpIn_wide (n := n)).1 ?_
  gi_wp2
  refine hR.mono ?_
  rintro e W3 (⟨rfl, hK3, -⟩ | ⟨rfl, hX3⟩)
  · gi_wp2
    go_wp2
    refine (show ∀ {Q : Exit → Act → World → Prop} {a : Act} {w : World}, Q .ret a w → Exit.noGoto Q .ret a w from fun h => by first | exact h | exact ⟨h, trivial⟩ | (unfold Exit.noGoto; exact h) | simpa [Exit.noGoto] using h) ?_
    refine bodyPost_ret (results_none rfl _ _ _) rfl ?_
    exact ⟨⟨_, rfl⟩, .inl hK3⟩
  · gi_wp2
    go_wp2
    refine (show ∀ {Q : Exit → Act → World → Prop} {a : Act} {w : World}, Q .ret a w → Exit.noGoto Q .ret a w from fun h => by first | exact h | exact ⟨h, trivial⟩ | (unfold Exit.noGoto; exact h) | simpa [Exit.noGoto] using h) ?_
    refine bodyPost_ret (results_none rfl _ _ _) rfl ?_
    exact ⟨⟨_, rfl⟩, .inr hX3⟩
theorem toks_iter (s : ByteArray) (hs : s.size ≤ 1000000) (sb : Nat) : IterD 11 #[.pointer (some ⟨sb, 0, none⟩)] (valsP s.data.toList) (fun W => W.cell? ⟨sb, 0, none⟩ = some (.string s) ∧ Tabs W ∧ MarksIn W) := by
  by_cases big : 65536 < s.size
  · exact toks_bigD s hs sb big
  · exact toks_in s (by omega) sb
end Go.Proofs.YtdoojooepkdlhaaDoor.W
/- A range over an iterator, its own variables in boxes. -/
namespace Go.Proofs.YtdoojooepkdlhaaDoor.W
open Go.ChangeShapes Go.WideShapes Go.RowKit Go.Shelf
set_option linter.unusedVariables false
/-- a round -/
theorem yield_lawA {P : Program} {m L D : Nat} {r : Loop} {args : Array Value} {W : World} {Rn : World → Prop} {Rx : Code → World → Prop} (hl : It.LoopAt W L D r) (hr : r.state = .ready) (hs : args.size = r.params.size) (a1 : Act) (W1 : World) (hl1 : It.LoopAt W1 L D r)
    (hassign : ∀ K : Act → World → Prop, K a1 W1 → r.assign.wpIn (Fence.wide.inRound L) m P (Exit.then K (fun _ _ _ => False)) { tmps := (r.params.zip args).foldl (fun t (p, v) => t.setIfInBounds p v) r.tmps, defers := [] } W)
    (hbody : ∀ W2, W2 = W1.putObj L (.loop { r with state := .busy }) → It.LoopAt W2 L D { r with state := .busy } → r.body.wpIn (Fence.wide.inRound L) m P (It.bodyWay L D r Rn Rx) a1 W2) :
    YieldAt Fence.wide m P L args W (fun e W' => (e = .returned (.bool true) ∧ Rn W') ∨ (e = .returned (.bool false) ∧ ∃ c, Rx c W')) := by
  have hy := run_yield (P := P) (args := args) hl.lp hs
  refine ⟨r.fn, _, r.assign, r.body, hy, roundIn_of_wpIn (F := Fence.wide) trivial (hassign _ ⟨_, run_beginRound hl1.lp hr, ?_⟩)⟩
  refine wpIn_mono (hbody _ rfl (hl1.put _)) ?_
  rintro e a3 W3 hp
  cases e with
  | normal =>
    obtain ⟨h3, h4⟩ := hp
    exact ⟨_, _, run_endRound none h3.lp, .inl ⟨rfl, h4⟩⟩
  | ret =>
    obtain ⟨h3, h4⟩ := hp
    exact ⟨_, _, run_endRound (some .ret) h3.lp, .inr ⟨rfl, _, h4⟩⟩
  | exit id =>
    obtain ⟨h3, h4⟩ := hp
    exact ⟨_, _, run_endRound (some (.exit id)) h3.lp, .inr ⟨rfl, _, h4⟩⟩
  | goto t => exact hp.elim
  | panic ch => exact hp.elim
  | outgrown => exact hp.elim
theorem iterD_lawA {gf : Nat} {lb : Array Value} {vals : List (Array Value)} {G : World → Prop} (hit : IterD gf lb vals G) (eg : ∀ args w, (callFunc gf args).run Tryd.prog w = .ok (.enter gf args) w)
    {g : Operand} {ps : Array Tmp} {assign body : Code} {Q : Exit → Act → World → Prop} {a : Act} {W0 : World} (hg : a.eval g = .func (.func gf) #[] lb)
    (I : Nat → (Nat → Prop) → World → Prop) (Ix : Code → World → Prop) (hL : ∀ i D W, I i D W → G W ∧ ∀ k, D k → k < W.heap.size)
    (hI : ∀ i D W W', I i D W → It.Upd (fun k => k = W0.heap.size + 1) W W' → I i D W')
    (hIx : ∀ c W W', Ix c W → It.Upd (fun k => k = W0.heap.size + 1) W W' → Ix c W') (D0 : Nat → Prop) (h0 : I 0 D0 W0)
    (A : Nat → World → Act) (N : Nat → World → World) (hN : ∀ i W, Below W.heap.size W (N i W)) (hsz : ∀ i (hi : i < vals.length), vals[i].size = ps.size)
    (hassign : ∀ (L i : Nat) (hi : i < vals.length) (W : World) (K : Act → World → Prop), K (A i W) (N i W) → assign.wpIn (Fence.wide.inRound L) 7 Tryd.prog (Exit.then K (fun _ _ _ => False)) { tmps := (ps.zip vals[i]).foldl (fun t (p, v) => t.setIfInBounds p v) a.tmps, defers := [] } W)
    (hbody : ∀ (L : Nat) i (hi : i < vals.length) D W (o : Obj), L = W0.heap.size + 1 → I i D W → W0.heap.size + 2 ≤ W.heap.size → body.wpIn (Fence.wide.inRound L) 7 Tryd.prog (rndWayD L W0.heap.size D ((N i W).putObj L o) (fun W' => ∃ D', I (i + 1) D' W') Ix) (A i W) ((N i W).putObj L o))
    (hdone : ∀ D W, I vals.length D W → W.heap[W0.heap.size]? = some (.deferred (some [])) → Q .normal { a with defers := { target := .collected W0.heap.size, args := #[] } :: a.defers } W)
    (hstop : ∀ c W, Ix c W → W.heap[W0.heap.size]? = some (.deferred (some [])) → c.wp Tryd.prog Q { a with defers := { target := .collected W0.heap.size, args := #[] } :: a.defers } W) :
    (Code.rangeFunc g ps assign body).wp Tryd.prog Q a W0 := by
  have hUL : ∀ (W : World) (o : Obj), It.Upd (fun k => k = W0.heap.size + 1) W (W.putObj (W0.heap.size + 1) o) := fun W o => It.upd_put (S := fun k => k = W0.heap.size + 1) (L := W0.heap.size + 1) rfl o
  refine (wpIn_wide (n := 9)).1 (It.rf_law hg eg (fun W => ∃ D, I vals.length D W) Ix ?_ ?_ ?_)
  · intro r W1 hr1 hr2 hr3 hr4 hr5 hr6 hW1 hL1
    have hI1 : I 0 D0 W1 := by
      refine hI 0 D0 W0 W1 h0 ?_
      rw [hW1]; exact ((It.Upd.refl _ W0).alloc _).alloc _
    have hsz1 : W0.heap.size + 2 ≤ W1.heap.size := by rw [hW1]; simp
    have key := hit 8 (W0.heap.size + 1)
      (fun i D W => I i D W ∧ It.LoopAt W (W0.heap.size + 1) W0.heap.size r ∧ W0.heap.size + 2 ≤ W.heap.size)
      (fun W => ∃ c, Ix c W ∧ It.LoopAt W (W0.heap.size + 1) W0.heap.size { r with state := .done, pending := some c })
      (by omega) (fun i D W h => hL i D W h.1) ?_ ?_ D0 W1 ⟨hI1, hL1, hsz1⟩
    · refine key.mono ?_
      rintro e W3 ⟨hv, ⟨D', h1, h2, _⟩ | ⟨c, h1, h2⟩⟩
      · exact ⟨hv, .inl ⟨⟨D', h1⟩, r, h2, by rw [hr1]; simp, hr2⟩⟩
      · exact ⟨hv, .inr ⟨c, h1, _, h2, by simp, rfl⟩⟩
    · rintro i D W W' ⟨h1, h2, h3⟩ hb
      exact ⟨hI i D W W' h1 (It.Upd.of_below hb), h2.kept (hb.block _ (by omega)) (hb.block _ (by omega)), by have := hb.size; omega⟩
    · rintro i hi D W ⟨hi1, hl1, hs1⟩
      have hargs : vals[i].size = r.params.size := by rw [hr4]; exact hsz i hi
      refine YieldAt.mono (yield_lawA (Rn := fun W' => (∃ D', I (i + 1) D' W' ∧ It.LoopAt W' (W0.heap.size + 1) W0.heap.size r ∧ W0.heap.size + 2 ≤ W'.heap.size) ∧ (∀ k, k < W.heap.size → ¬ D k → W'.heap[k]? = W.heap[k]?)) (Rx := fun c W' => Ix c W' ∧ It.LoopAt W' (W0.heap.size + 1) W0.heap.size { r with state := .done, pending := some c }) hl1 hr1 hargs (A i W) (N i W) (hl1.kept ((hN i W).block _ (by omega)) ((hN i W).block _ (by omega))) ?_ ?_) ?_
      · intro K hK
        rw [hr5, hr4, hr3]
        exact hassign _ i hi W K hK
      · intro W2 hW2 hl2
        have hbd := hbody _ i hi D W (.loop { r with state := .busy }) rfl hi1 hs1
        rw [← hW2] at hbd
        rw [← hr6] at hbd
        refine wpIn_mono hbd ?_
        intro e a3 W3 hp
        have put : ∀ q : Loop, (W3.heap[W0.heap.size + 1]? = W2.heap[W0.heap.size + 1]? ∧ W3.heap[W0.heap.size]? = W2.heap[W0.heap.size]?) → It.LoopAt W3 (W0.heap.size + 1) W0.heap.size { r with state := .busy } ∧ It.LoopAt (W3.putObj (W0.heap.size + 1) (.loop q)) (W0.heap.size + 1) W0.heap.size q ∧ W0.heap.size + 2 ≤ (W3.putObj (W0.heap.size + 1) (.loop q)).heap.size := by
          rintro q ⟨e1, e2⟩
          have hl3 := hl2.kept e1 e2
          refine ⟨hl3, hl3.put q, ?_⟩
          have := (Array.getElem?_eq_some_iff.1 hl3.lp).1
          simp; omega
        cases e with
        | normal =>
          obtain ⟨hk, hkp, D', hin⟩ := hp
          obtain ⟨p1, p2, p4⟩ := put { r with state := .ready, pending := none } hk
          have er : ({ r with state := .ready, pending := none } : Loop) = r := by cases r; simp_all
          refine ⟨p1, ⟨D', hI _ D' W3 _ hin (hUL W3 _), ?_, p4⟩, ?_⟩
          · rw [er] at p2 ⊢
            exact p2
          · intro k hk1 hk2
            by_cases ck : k = W0.heap.size + 1
            · subst ck
              rw [er] at p2 ⊢
              rw [p2.lp, hl1.lp]
            · rw [World.putObj_heap_other ck, hkp k (by rw [hW2]; have := (hN i W).size; simp; omega) hk2, hW2, World.putObj_heap_other ck, (hN i W).block k hk1]
        | ret =>
          obtain ⟨hk, hin⟩ := hp
          obtain ⟨p1, p2, p4⟩ := put { r with state := .done, pending := some .ret } hk
          exact ⟨p1, hIx _ W3 _ hin (hUL W3 _), p2⟩
        | exit id =>
          obtain ⟨hk, hin⟩ := hp
          obtain ⟨p1, p2, p4⟩ := put { r with state := .done, pending := some (.exit id) } hk
          exact ⟨p1, hIx _ W3 _ hin (hUL W3 _), p2⟩
        | goto t => exact hp.elim
        | panic ch => exact hp.elim
        | outgrown => exact hp.elim
      · rintro e W' (⟨rfl, h1⟩ | ⟨rfl, c, h1⟩)
        · exact .inl ⟨rfl, h1.1, h1.2⟩
        · exact .inr ⟨rfl, c, h1⟩
  · intro W3 q hd hl
    obtain ⟨D', hd'⟩ := hd
    exact hdone D' _ (hI _ D' W3 _ hd' (hUL W3 _)) hl.defs
  · intro W3 q c hs hl
    exact wpIn_wide.2 (hstop c _ (hIx _ W3 _ hs (hUL W3 _)) hl.defs)
end Go.Proofs.YtdoojooepkdlhaaDoor.W
/- Package lex: All's two results, both out of boxes. -/
namespace Go.Proofs.YtdoojooepkdlhaaDoor.W
open Go.ChangeShapes Go.WideShapes Go.RowKit Go.Shelf
set_option linter.unusedVariables false
theorem ftT : ∃ d, Tryd.prog.underlying 25 = some d ∧ (match d with | .struct _ | .array _ _ => true | _ => false) = true := by
  have h : (Tryd.prog.underlying 25).map (fun d => match d with | .struct _ | .array _ _ => true | _ => false) = some true := by kernel_rfl
  cases hu : Tryd.prog.underlying 25 with
  | none => rw [hu] at h; cases h
  | some d => rw [hu] at h; injection h with h; exact ⟨d, rfl, h⟩
theorem ftSz : (Tryd.prog.info? 25).map (·.size) = some 2 := by kernel_rfl
theorem rowT : Tryd.prog.underlying 22 = some (.slice 30) := by kernel_rfl
theorem load_slice (w : World) (b : Nat) (v : Value) (h : w.cell? ⟨b, 0, none⟩ = some v) : (loadVar 22 ⟨b, 0, none⟩).run Tryd.prog w = .ok v w := by
  simp [loadVar, isAgg, run_underlying rowT, h, go_sem]
theorem all_ret {fn : Func} {p q : Tmp} (h : fn.results = #[.cell p 22, .cell q 25]) (tmps : Array Value) (w : World) (b2 b3 : Nat) (v c a : Value) (fr fr' : Nat × Nat) (t2 : TypeId) (hp : tmps.getD p undef = .pointer (some ⟨b2, 0, none⟩)) (hq : tmps.getD q undef = .pointer (some ⟨b3, 0, none⟩)) (hg : w.heap[b2]? = some (.cells #[v] t2 fr)) (hg3 : w.heap[b3]? = some (.cells #[c, a] 25 fr')) : (results fn tmps).run Tryd.prog w = .ok (.tuple #[v, .agg #[c, a]]) w := by
  obtain ⟨d, hu, hd⟩ := ftT
  have hl := run_loadVar_row (P := Tryd.prog) w b3 25 25 #[c, a] fr' d hg3 hu (by cases d <;> first | rfl | exact hd) (by rw [ftSz]; rfl)
  have hl2 := load_slice w b2 v (cell_of_row w b2 0 _ _ _ hg)
  have hp' : tmps[p]?.getD undef = .pointer (some ⟨b2, 0, none⟩) := by simpa using hp
  have hq' : tmps[q]?.getD undef = .pointer (some ⟨b3, 0, none⟩) := by simpa using hq
  simp [results, h, hp', hq', asAddr, hl, hl2]
end Go.Proofs.YtdoojooepkdlhaaDoor.W
/- Package lex: what is told, as plain data; a region that draws its order, in a round. -/
namespace Go.Proofs.YtdoojooepkdlhaaDoor.W
open Go.ChangeShapes Go.WideShapes Go.RowKit Go.Shelf
set_option linter.unusedVariables false
/-- a token with its place, a fault with its place -/
structure Yd where
  t : Tk
  a : Int
  c : Int
  f : Int
def yy (y : Yd) : Array Value := yv y.t y.a y.c y.f
def toksY : Nat → List UInt8 → Nat → List Yd
  | 0, _, _ => []
  | f + 1, l, a => if l.length ≤ a then [⟨endTk, a, 0, 0⟩] else
    if (pieceP (l.drop a)).size = 0 then [⟨noTk, 0, 60, a⟩] else
    if (pieceP (l.drop a)).code ≠ 0 then [⟨noTk, 0, (pieceP (l.drop a)).code, a⟩] else
    if (pieceP (l.drop a)).t.kind ≠ 0 then ⟨(pieceP (l.drop a)).t, a, 0, 0⟩ :: toksY f l (a + (pieceP (l.drop a)).size) else toksY f l (a + (pieceP (l.drop a)).size)
/-- what Tokens tells of a source -/
def srcY (l : List UInt8) : List Yd := if 65536 < l.length then [⟨noTk, 0, 2, 0⟩] else toksY (l.length + 1) l 0
theorem toks_map : ∀ (f : Nat) (l : List UInt8) (a : Nat), toksP f l a = (toksY f l a).map yy
  | 0, _, _ => rfl
  | f + 1, l, a => by
    unfold toksP toksY
    split
    · rfl
    · split
      · rfl
      · split
        · rfl
        · split
          · rw [List.map_cons, ← toks_map f l]; rfl
          · exact toks_map f l _
theorem vals_map (l : List UInt8) : valsP l = (srcY l).map yy := by
  unfold valsP srcY
  split
  · rfl
  · exact toks_map _ _ _
theorem toksY_len : ∀ (f : Nat) (l : List UInt8) (a : Nat), (toksY f l a).length ≤ f
  | 0, _, _ => Nat.le_refl _
  | f + 1, l, a => by
    unfold toksY
    split
    · simp
    · split
      · simp
      · split
        · simp
        · split
          · have := toksY_len f l (a + (pieceP (l.drop a)).size); simp; omega
          · have := toksY_len f l (a + (pieceP (l.drop a)).size); omega
theorem srcY_len (l : List UInt8) : (srcY l).length ≤ l.length + 1 := by
  unfold srcY
  split
  · simp
  · exact toksY_len _ _ _
/-- a token's cells -/
def cellsA (y : Yd) : Array Value := #[.int .i64 y.t.kind, .int .i64 y.a, .string y.t.text, .int .i64 y.t.int, .int .u64 y.t.bits]
def rowsY (L : List Yd) : List Value := L.flatMap (fun y => (cellsA y).toList)
theorem rowsY_snoc (L : List Yd) (i : Nat) (h : i < L.length) : rowsY (L.take (i + 1)) = rowsY (L.take i) ++ (cellsA L[i]).toList := by
  unfold rowsY
  rw [List.take_succ_eq_append_getElem h, List.flatMap_append]
  simp
theorem rowsY_len (L : List Yd) : (rowsY L).length = L.length * 5 := by
  induction L with
  | nil => rfl
  | cons y L ih => unfold rowsY at *; rw [List.flatMap_cons, List.length_append, ih]; simp [cellsA]; omega
/-- an append in a round -/
theorem gi_append {P : Program} {F : Fence} {n : Nat} {L : Option Nat} (w : World) {o : Oper} {a : Act} {K : Act → World → Prop} {Q : Exit → Act → World → Prop} (s x : Operand) (t tn : TypeId)
    (ho : o.op = .call { callee := .builtin .append, args := #[s, x], argTypes := #[t, tn] }) (vs vx : Value) (hs : a.eval s = vs) (hx : a.eval x = vx)
    (v' : Value) (w' : World) (hr : (Builtin.append_ #[t, tn] o.type #[vs, vx]).run P w = .ok v' w') (h : K (a.put o.dst v') w') : o.uponIn F n P a K Q ((Oper.semAt L a.eval o).run P w) := by
  rw [Oper.semAt_eq _ _ _ (fun c e => by rw [ho] at e; cases e)]
  unfold execOp
  simp only [ho, resolve, invoke, builtin, Sem.run_bind, Sem.run_pure, Result.andThen_ok, List.map_toArray, List.map_cons, List.map_nil, hs, hx, hr]
  exact h
theorem eg_toks : ∀ args w, (callFunc 11 args).run Tryd.prog w = .ok (.enter 11 args) w := enters_of Tryd.func11 (by kernel_rfl) rfl
theorem infoTk : (Tryd.prog.info? 30).map (fun i => (i.zero, i.size, i.bytes)) = some (some (.agg #[.int .i64 0, .int .i64 0, .string ⟨#[]⟩, .int .i64 0, .int .u64 0]), 5, 48) := by kernel_rfl
/-- a token is put behind a row of tokens -/
theorem append_tok (W : World) (ty : TypeId) (v : Value) (n : Nat) (xs : List Value) {B0 : Nat} (hown : W.ownsRow B0 30 5 v n xs) (hB : B0 ≤ W.heap.size) (y : Yd) (hn : n ≤ 2000000) : ∃ v' w', (Builtin.append_ #[22, 22] ty #[v, .slice (some ⟨W.heap.size, 0, none⟩) 1 1]).run Tryd.prog (W.alloc (.cells (cellsA y) 30)) = .ok v' w' ∧ w'.ownsRow B0 30 5 v' (n + 1) (xs ++ (cellsA y).toList) ∧ (W.alloc (.cells (cellsA y) 30)).grownBy w' v.ownBlock ∧ (v' = .slice none 0 0 ↔ v = .slice none 0 0 ∧ 1 = 0) ∧ (v'.ownBlock = v.ownBlock ∨ v'.ownBlock = some (W.alloc (.cells (cellsA y) 30)).heap.size) := by
  obtain ⟨i0, hi, hz0, hz1, hz2⟩ := info_parts infoTk
  have e0 := World.cell?_alloc_new W (cellsA y) 30
  have ho := hown.alloc (.cells (cellsA y) 30)
  refine run_append_own_at (P := Tryd.prog) (W.alloc (.cells (cellsA y) 30)) B0 22 ty 30 i0 _ 5 48 rowT hi hz0 hz1 hz2 rfl (by omega) v n xs ho ⟨W.heap.size, 0, none⟩ 1 1 (cellsA y).toList (by simp [cellsA]) ?_ ?_ (by unfold maxLen; omega) (by omega) (by simp; omega)
  · intro j u hj
    have e1 : ((⟨W.heap.size, 0, none⟩ : Addr).add j) = ⟨W.heap.size, j, none⟩ := by simp [Addr.add]; intro e; exact e.symm
    rw [e1, e0 j]
    simpa using hj
  · intro u hu
    simp [cellsA] at hu
    rcases hu with rfl | rfl | rfl | rfl | rfl <;> rfl
end Go.Proofs.YtdoojooepkdlhaaDoor.W
/- Chapter 11 in plain words: the text of a double is one piece. -/
namespace Go.Proofs.YtdoojooepkdlhaaDoor.W
set_option linter.unusedVariables false
theorem run_app (p : UInt8 → Bool) (a b : List UInt8) (h : ∀ c ∈ a, p c = true) (hb : ∀ c, b.head? = some c → p c = false) : runN p (a ++ b) = a.length := by
  induction a with
  | nil =>
    cases b with
    | nil => rfl
    | cons c r => exact runN_cons_f (hb c rfl)
  | cons c r ih => rw [List.cons_append, runN_cons_t (h c (by simp)), ih (fun x hx => h x (by simp [hx]))]; rfl
theorem tail_form (a : Nat) : ∃ (sg : UInt8) (ds : List UInt8), tailT a = 112 :: sg :: ds ∧ (sg = 43 ∨ sg = 45) ∧ ∀ c ∈ ds, digB c = true := by
  unfold tailT
  split
  · exact ⟨43, [48], rfl, .inl rfl, by decide⟩
  · refine ⟨_, _, rfl, ?_, fun c hc => ?_⟩
    · split
      · exact .inr rfl
      · exact .inl rfl
    · exact decide_eq_true (decL_digits _ c hc)
theorem frac_all (a : Nat) (h1 : a < 9218868437227405312) : ∀ c ∈ fracT a, hexB c = true := by
  unfold fracT
  split
  · intro c hc; cases hc
  · rename_i h0
    exact fracL_hex _ (fracOf_spec a h0 h1).1
theorem pos_form (a : Nat) (h1 : a < 9218868437227405312) : ∃ (H : List UInt8) (sg : UInt8) (ds : List UInt8), posT a = 48 :: 120 :: (H ++ 112 :: sg :: ds) ∧ (∀ c ∈ H, hexPB c = true) ∧ (sg = 43 ∨ sg = 45) ∧ ∀ c ∈ ds, digB c = true := by
  obtain ⟨sg, ds, h2, h3, h4⟩ := tail_form a
  refine ⟨firstD a :: (if fracT a = [] then [] else 46 :: fracT a), sg, ds, ?_, ?_, h3, h4⟩
  · rw [posT_parts a h1, h2]; rfl
  · intro c hc
    rcases List.mem_cons.1 hc with rfl | hc
    · unfold firstD; split <;> decide
    · split at hc
      · cases hc
      · rcases List.mem_cons.1 hc with rfl | hc
        · decide
        · unfold hexPB; rw [frac_all a h1 c hc, Bool.or_true]
theorem dbl_form (H : List UInt8) (sg : UInt8) (ds : List UInt8) (h1 : ∀ c ∈ H, hexPB c = true) (h2 : sg = 43 ∨ sg = 45) (h3 : ∀ c ∈ ds, digB c = true) : dblN (48 :: 120 :: (H ++ 112 :: sg :: ds)) = (48 :: 120 :: (H ++ 112 :: sg :: ds)).length := by
  have e1 : runN hexPB (H ++ 112 :: sg :: ds) = H.length := run_app _ _ _ h1 (by intro c hc; injection hc with hc; subst hc; decide)
  have e2 : powN (112 :: sg :: ds) = 2 + ds.length := by
    rcases h2 with rfl | rfl
    · show 2 + runN digB ds = _; rw [run_all _ _ h3]
    · show 2 + runN digB ds = _; rw [run_all _ _ h3]
  have e3 : (48 :: 120 :: (H ++ 112 :: sg :: ds)).drop (2 + H.length) = 112 :: sg :: ds := by
    rw [Nat.add_comm]
    show (H ++ 112 :: sg :: ds).drop H.length = _
    rw [List.drop_left]
  unfold dblN
  have e0 : (48 :: 120 :: (H ++ 112 :: sg :: ds)).drop 2 = H ++ 112 :: sg :: ds := rfl
  rw [e0, e1, e3, e2]
  simp
  omega
theorem readF_pos (a : Nat) (h1 : a < 9218868437227405312) : readF (posT a) = ((a : Int), 0) := by
  have hn : nanB (a : Int) = false := by unfold nanB; rw [decide_eq_false_iff_not]; omega
  have e : fltT (a : Int) = posT a := by
    unfold fltT
    rw [hn, if_neg (by decide), if_neg (by omega)]
    rfl
  have := readF_back (a : Int) (by omega) (by omega)
  rw [e] at this
  rw [this]
  unfold fltW
  rw [hn]
  rfl
theorem piece_pos (a : Nat) (h1 : a < 9218868437227405312) : pieceP (posT a) = okPc ⟨5, ⟨#[]⟩, 0, (a : Int)⟩ (posT a).length := by
  obtain ⟨H, sg, ds, e, h2, h3, h4⟩ := pos_form a h1
  have hr := readF_pos a h1
  have hd := dbl_form H sg ds h2 h3 h4
  rw [← e] at hd
  have g1 : (gapP (posT a)).size = 0 := by rw [e]; exact gap_none 48 _ (by decide) (by decide)
  have g2 : nameP (posT a) = noPc := by rw [e]; exact if_pos (.inr (show digB 48 = true by decide))
  have g3 : doubleP (posT a) = okPc ⟨5, ⟨#[]⟩, 0, (a : Int)⟩ (posT a).length := by
    have ht : (posT a).take 2 = hexT := by rw [e]; rfl
    unfold doubleP
    rw [if_pos ht, hd, List.take_length, hr, if_pos rfl]
  unfold pieceP
  rw [orPc_none g1, g2, orPc_none (show noPc.size = 0 from rfl), g3, orPc_some]
  show ¬ (posT a).length = 0
  rw [e]
  simp
end Go.Proofs.YtdoojooepkdlhaaDoor.W
/- What Tokens tells of the texts of numbers. -/
namespace Go.Proofs.YtdoojooepkdlhaaDoor.W
set_option linter.unusedVariables false
theorem vals_one (l : List UInt8) (t : Tk) (hp : pieceP l = okPc t l.length) (h0 : 0 < l.length) (h1 : l.length ≤ 65536) (hk : ¬ t.kind = 0) : valsP l = [yv t 0 0 0, yv endTk (l.length : Nat) 0 0] := by
  unfold valsP
  rw [if_neg (by omega)]
  have hp' : pieceP (l.drop 0) = okPc t l.length := hp
  rw [toks_tok (by omega) hp' (show ¬ l.length = 0 by omega) rfl hk]
  obtain ⟨n, hn⟩ : ∃ n, l.length = n + 1 := ⟨l.length - 1, by omega⟩
  show _ :: toksP l.length l (0 + l.length) = _
  have e : toksP l.length l (0 + l.length) = [yv endTk (l.length : Nat) 0 0] := by
    have := toks_end (f := n) (l := l) (a := 0 + l.length) (by omega)
    rw [← hn] at this
    rw [this, Nat.zero_add]
  rw [e]
  rfl
theorem vals_minus (r : List UInt8) (h1 : r.length + 1 ≤ 65536) : valsP (45 :: r) = yv ⟨3, bytesOf [45], 0, 0⟩ 0 0 0 :: toksP (r.length + 1) (45 :: r) 1 := by
  unfold valsP
  rw [if_neg (by simp; omega)]
  have hp : pieceP ((45 :: r).drop 0) = okPc ⟨3, bytesOf [45], 0, 0⟩ 1 := piece_minus r
  rw [toks_tok (by simp) hp (by decide) rfl (by decide)]
  rfl
theorem vals_two (r : List UInt8) (t : Tk) (hp : pieceP r = okPc t r.length) (h0 : 0 < r.length) (h1 : r.length + 1 ≤ 65536) (hk : ¬ t.kind = 0) : valsP (45 :: r) = [yv ⟨3, bytesOf [45], 0, 0⟩ 0 0 0, yv t 1 0 0, yv endTk ((r.length + 1 : Nat) : Int) 0 0] := by
  rw [vals_minus r h1]
  have hp' : pieceP ((45 :: r).drop 1) = okPc t r.length := hp
  rw [toks_tok (a := 1) (l := 45 :: r) (show ¬ r.length + 1 ≤ 1 by omega) hp' (show ¬ r.length = 0 by omega) rfl hk]
  obtain ⟨n, hn⟩ : ∃ n, r.length = n + 1 := ⟨r.length - 1, by omega⟩
  show _ :: _ :: toksP r.length (45 :: r) (1 + r.length) = _
  have e : toksP r.length (45 :: r) (1 + r.length) = [yv endTk ((r.length + 1 : Nat) : Int) 0 0] := by
    have := toks_end (f := n) (l := 45 :: r) (a := 1 + r.length) (by simp; omega)
    rw [← hn] at this
    rw [this, Nat.add_comm 1]
  rw [e]
  rfl
theorem vals_bad (r : List UInt8) (c : Int) (hp : pieceP r = badPc r.length c) (h0 : 0 < r.length) (h1 : r.length + 1 ≤ 65536) (hc : ¬ c = 0) : valsP (45 :: r) = [yv ⟨3, bytesOf [45], 0, 0⟩ 0 0 0, yv noTk 0 c 1] := by
  rw [vals_minus r h1]
  have hp' : pieceP ((45 :: r).drop 1) = badPc r.length c := hp
  rw [toks_bad (a := 1) (l := 45 :: r) (show ¬ r.length + 1 ≤ 1 by omega) hp' (show ¬ r.length = 0 by omega) hc]
  rfl
end Go.Proofs.YtdoojooepkdlhaaDoor.W
/- What Tokens tells of the texts of numbers, as plain data. -/
namespace Go.Proofs.YtdoojooepkdlhaaDoor.W
set_option linter.unusedVariables false
section
variable {f a : Nat} {l : List UInt8} {p : Pc}
theorem toksY_end (h : l.length ≤ a) : toksY (f + 1) l a = [⟨endTk, a, 0, 0⟩] := by unfold toksY; exact if_pos h
theorem toksY_none (h : ¬ l.length ≤ a) (hp : pieceP (l.drop a) = p) (h1 : p.size = 0) : toksY (f + 1) l a = [⟨noTk, 0, 60, a⟩] := by
  unfold toksY; rw [if_neg h, hp, if_pos h1]
theorem toksY_bad (h : ¬ l.length ≤ a) (hp : pieceP (l.drop a) = p) (h1 : ¬ p.size = 0) (h2 : ¬ p.code = 0) : toksY (f + 1) l a = [⟨noTk, 0, p.code, a⟩] := by
  unfold toksY; rw [if_neg h, hp, if_neg h1, if_pos h2]
theorem toksY_tok (h : ¬ l.length ≤ a) (hp : pieceP (l.drop a) = p) (h1 : ¬ p.size = 0) (h2 : p.code = 0) (h3 : ¬ p.t.kind = 0) : toksY (f + 1) l a = ⟨p.t, a, 0, 0⟩ :: toksY f l (a + p.size) := by
  conv => lhs; unfold toksY
  rw [if_neg h, hp, if_neg h1, if_neg (by rw [h2]; decide), if_pos h3]
theorem toksY_gap (h : ¬ l.length ≤ a) (hp : pieceP (l.drop a) = p) (h1 : ¬ p.size = 0) (h2 : p.code = 0) (h3 : p.t.kind = 0) : toksY (f + 1) l a = toksY f l (a + p.size) := by
  conv => lhs; unfold toksY
  rw [if_neg h, hp, if_neg h1, if_neg (by rw [h2]; decide), if_neg (by rw [h3]; decide)]
end
theorem src_one (l : List UInt8) (t : Tk) (hp : pieceP l = okPc t l.length) (h0 : 0 < l.length) (h1 : l.length ≤ 65536) (hk : ¬ t.kind = 0) : srcY l = [⟨t, 0, 0, 0⟩, ⟨endTk, (l.length : Nat), 0, 0⟩] := by
  unfold srcY
  rw [if_neg (by omega)]
  have hp' : pieceP (l.drop 0) = okPc t l.length := hp
  rw [toksY_tok (by omega) hp' (show ¬ l.length = 0 by omega) rfl hk]
  obtain ⟨n, hn⟩ : ∃ n, l.length = n + 1 := ⟨l.length - 1, by omega⟩
  show _ :: toksY l.length l (0 + l.length) = _
  have e : toksY l.length l (0 + l.length) = [⟨endTk, (l.length : Nat), 0, 0⟩] := by
    have := toksY_end (f := n) (l := l) (a := 0 + l.length) (by omega)
    rw [← hn] at this
    rw [this, Nat.zero_add]
  rw [e]
  rfl
theorem src_minus (r : List UInt8) (h1 : r.length + 1 ≤ 65536) : srcY (45 :: r) = ⟨⟨3, bytesOf [45], 0, 0⟩, 0, 0, 0⟩ :: toksY (r.length + 1) (45 :: r) 1 := by
  unfold srcY
  rw [if_neg (by simp; omega)]
  have hp : pieceP ((45 :: r).drop 0) = okPc ⟨3, bytesOf [45], 0, 0⟩ 1 := piece_minus r
  rw [toksY_tok (by simp) hp (by decide) rfl (by decide)]
  rfl
theorem src_two (r : List UInt8) (t : Tk) (hp : pieceP r = okPc t r.length) (h0 : 0 < r.length) (h1 : r.length + 1 ≤ 65536) (hk : ¬ t.kind = 0) : srcY (45 :: r) = [⟨⟨3, bytesOf [45], 0, 0⟩, 0, 0, 0⟩, ⟨t, 1, 0, 0⟩, ⟨endTk, ((r.length + 1 : Nat) : Int), 0, 0⟩] := by
  rw [src_minus r h1]
  have hp' : pieceP ((45 :: r).drop 1) = okPc t r.length := hp
  rw [toksY_tok (a := 1) (l := 45 :: r) (show ¬ r.length + 1 ≤ 1 by omega) hp' (show ¬ r.length = 0 by omega) rfl hk]
  obtain ⟨n, hn⟩ : ∃ n, r.length = n + 1 := ⟨r.length - 1, by omega⟩
  show _ :: _ :: toksY r.length (45 :: r) (1 + r.length) = _
  have e : toksY r.length (45 :: r) (1 + r.length) = [⟨endTk, ((r.length + 1 : Nat) : Int), 0, 0⟩] := by
    have := toksY_end (f := n) (l := 45 :: r) (a := 1 + r.length) (by simp; omega)
    rw [← hn] at this
    rw [this, Nat.add_comm 1]
  rw [e]
  rfl
theorem src_bad (r : List UInt8) (c : Int) (hp : pieceP r = badPc r.length c) (h0 : 0 < r.length) (h1 : r.length + 1 ≤ 65536) (hc : ¬ c = 0) : srcY (45 :: r) = [⟨⟨3, bytesOf [45], 0, 0⟩, 0, 0, 0⟩, ⟨noTk, 0, c, 1⟩] := by
  rw [src_minus r h1]
  have hp' : pieceP ((45 :: r).drop 1) = badPc r.length c := hp
  rw [toksY_bad (a := 1) (l := 45 :: r) (show ¬ r.length + 1 ≤ 1 by omega) hp' (show ¬ r.length = 0 by omega) hc]
  rfl
theorem dec_digs (n : Nat) : ∀ c ∈ decL n, digB c = true := fun c hc => (List.all_eq_true.1 (dec_all n)) c hc
theorem dec_ne (n : Nat) : decL n ≠ [] := decL_ne n
theorem dec_read (n : Nat) (h : n < 9223372036854775808) : readI (decL n) = ((n : Int), 0) := by
  have e : intT (n : Int) = decL n := by unfold intT; rw [if_neg (by omega)]; simp
  have := readI_back (n : Int) (by omega) (by omega)
  rwa [e] at this
theorem readI_digs (d : List UInt8) (hd : ∀ c ∈ d, digB c = true) : readI d = if 64 < d.length then (0, 2) else readD false d := by
  unfold readI
  split
  · rfl
  · split
    · rename_i q
      exact absurd (hd 45 (by simp)) (by decide)
    · rfl
theorem dec_min (n : Nat) (h : 9223372036854775808 ≤ n) : pieceP (decL n) = badPc (decL n).length 62 := by
  rw [piece_digits _ (dec_digs _) (dec_ne _)]
  refine if_neg ?_
  rw [readI_digs _ (dec_digs _)]
  split
  · decide
  · unfold readD
    split
    · rw [if_neg (by rw [if_neg (by decide), valD_dec]; omega)]
      decide
    · decide
theorem pos_piece (a : Nat) (h : a ≤ 9218868437227405312) : pieceP (posT a) = okPc ⟨5, ⟨#[]⟩, 0, (a : Int)⟩ (posT a).length := by
  by_cases c : a = 9218868437227405312
  · subst c
    have e : posT 9218868437227405312 = infT := if_pos rfl
    rw [e]
    exact piece_inf
  · exact piece_pos a (by omega)
/-- the three ways of a number's text -/
inductive NumY (b : Bool) (i u : Int) (l : List UInt8) : Prop where
  | least (h1 : b = true) (h2 : i = -9223372036854775808) (h3 : srcY l = [⟨⟨3, bytesOf [45], 0, 0⟩, 0, 0, 0⟩, ⟨noTk, 0, 62, 1⟩]) : NumY b i u l
  | minus (t : Tk) (r : List UInt8) (h1 : b = true → i ≠ -9223372036854775808) (h2 : l = 45 :: r) (h3 : srcY l = [⟨⟨3, bytesOf [45], 0, 0⟩, 0, 0, 0⟩, ⟨t, 1, 0, 0⟩, ⟨endTk, (l.length : Nat), 0, 0⟩]) : NumY b i u l
  | plain (t : Tk) (h1 : b = true → i ≠ -9223372036854775808) (h2 : l.head? ≠ some 45) (h3 : srcY l = [⟨t, 0, 0, 0⟩, ⟨endTk, (l.length : Nat), 0, 0⟩]) (h4 : b = true → t.kind = 4 ∧ t.int = i) (h5 : b = false → t.kind = 5 ∧ t.bits = (readF l).1) : NumY b i u l
theorem num_y (b : Bool) (i u : Int) (i0 : -9223372036854775808 ≤ i) (i1 : i ≤ 9223372036854775807) (u0 : 0 ≤ u) (u1 : u < 18446744073709551616) : NumY b i u (numT b i u) ∧ 0 < (numT b i u).length ∧ (numT b i u).length ≤ 64 := by
  cases b with
  | true =>
    have e : numT true i u = intT i := rfl
    rw [e]
    have hl := int_len i i0 (by omega)
    have hne : ∀ n, 0 < (decL n).length := fun n => by
      have := dec_ne n
      cases h : decL n with
      | nil => exact absurd h this
      | cons a q => simp
    by_cases c : i < 0
    · have e2 : intT i = 45 :: decL i.natAbs := if_pos c
      rw [e2] at hl ⊢
      refine ⟨?_, by simp, by omega⟩
      by_cases c2 : i = -9223372036854775808
      · refine .least rfl c2 (src_bad _ 62 ?_ (hne _) (by simp at hl; omega) (by decide))
        subst c2
        exact dec_min _ (by decide)
      · refine .minus ⟨4, ⟨#[]⟩, (i.natAbs : Int), 0⟩ _ (fun _ => c2) rfl ?_
        · have := src_two (decL i.natAbs) ⟨4, ⟨#[]⟩, (i.natAbs : Int), 0⟩ (by rw [piece_digits _ (dec_digs _) (dec_ne _), dec_read _ (by omega)]; rfl) (hne _) (by simp at hl; omega) (show ¬ (4 : Int) = 0 by decide)
          rw [this]
          simp
    · have e2 : intT i = decL i.natAbs := if_neg c
      rw [e2] at hl ⊢
      refine ⟨?_, hne _, by omega⟩
      refine .plain ⟨4, ⟨#[]⟩, (i.natAbs : Int), 0⟩ (fun _ => by omega) ?_ ?_ (fun _ => ⟨rfl, by show (i.natAbs : Int) = i; omega⟩) (fun h => by cases h)
      · intro h
        cases hd : decL i.natAbs with
        | nil => rw [hd] at h; cases h
        | cons a q =>
          rw [hd] at h
          simp at h
          have := dec_digs i.natAbs a (by rw [hd]; simp)
          subst h
          revert this
          decide
      · exact src_one _ _ (by rw [piece_digits _ (dec_digs _) (dec_ne _), dec_read _ (by omega)]; rfl) (hne _) (by omega) (show ¬ (4 : Int) = 0 by decide)
  | false =>
    have e : numT false i u = fltT u := rfl
    rw [e]
    have hl := flt_len u u0 u1
    have hrf := readF_back u u0 u1
    unfold fltT at hl hrf ⊢
    by_cases c : nanB u = true
    · rw [if_pos c] at hl hrf ⊢
      refine ⟨.plain _ (fun h => by cases h) (by decide) (src_one _ _ piece_nan (by decide) (by decide) (by decide)) (fun h => by cases h) (fun _ => ⟨rfl, ?_⟩), by decide, by decide⟩
      kernel_rfl
    · rw [if_neg c] at hl hrf ⊢
      have nb : u % 9223372036854775808 ≤ 9218868437227405312 := by
        unfold nanB at c
        simp only [decide_eq_true_eq, Int.not_lt] at c
        exact c
      have hpl : ∀ n, 0 < (posT n).length := fun n => by rcases posT_head n with h | h <;> (cases hq : posT n <;> simp_all)
      by_cases c2 : 9223372036854775808 ≤ u
      · rw [if_pos c2] at hl hrf ⊢
        refine ⟨?_, by simp, by omega⟩
        refine .minus ⟨5, ⟨#[]⟩, 0, ((u - 9223372036854775808).toNat : Int)⟩ _ (fun h => by cases h) rfl ?_
        have := src_two (posT (u - 9223372036854775808).toNat) _ (pos_piece _ (by omega)) (hpl _) (by simp at hl; omega) (show ¬ (5 : Int) = 0 by decide)
        rw [this]
        simp
      · rw [if_neg c2] at hl hrf ⊢
        refine ⟨?_, hpl _, by omega⟩
        refine .plain ⟨5, ⟨#[]⟩, 0, (u.toNat : Int)⟩ (fun h => by cases h) ?_ (src_one _ _ (pos_piece _ (by omega)) (hpl _) (by omega) (show ¬ (5 : Int) = 0 by decide)) (fun h => by cases h) (fun _ => ⟨rfl, ?_⟩)
        · rcases posT_head u.toNat with h | h <;> rw [h] <;> decide
        · rw [hrf]
          show (u.toNat : Int) = fltW u
          unfold fltW
          rw [if_neg c]
          omega
end Go.Proofs.YtdoojooepkdlhaaDoor.W
/- Chapter 11 in plain words: the tokens of a text, and of two texts with a line's end between. -/
namespace Go.Proofs.YtdoojooepkdlhaaDoor.W
set_option linter.unusedVariables false
/-- what is told of a text whose first byte stands at a -/
def toksS : Nat → List UInt8 → Nat → List Yd
  | 0, _, _ => []
  | f + 1, r, a => if r = [] then [⟨endTk, a, 0, 0⟩] else
    if (pieceP r).size = 0 then [⟨noTk, 0, 60, a⟩] else
    if (pieceP r).code ≠ 0 then [⟨noTk, 0, (pieceP r).code, a⟩] else
    if (pieceP r).t.kind ≠ 0 then ⟨(pieceP r).t, a, 0, 0⟩ :: toksS f (r.drop (pieceP r).size) (a + (pieceP r).size) else toksS f (r.drop (pieceP r).size) (a + (pieceP r).size)
theorem toksY_S : ∀ (f : Nat) (l : List UInt8) (a : Nat), toksY f l a = toksS f (l.drop a) a
  | 0, _, _ => rfl
  | f + 1, l, a => by
    have e : l.drop a = [] ↔ l.length ≤ a := List.drop_eq_nil_iff
    unfold toksY toksS
    by_cases c : l.length ≤ a
    · rw [if_pos c, if_pos (e.2 c)]
    · rw [if_neg c, if_neg (fun h => c (e.1 h))]
      rw [toksY_S f l, List.drop_drop]
theorem toksS_fuel : ∀ (f g : Nat) (r : List UInt8) (a : Nat), r.length < f → r.length < g → toksS f r a = toksS g r a
  | 0, _, _, _, h, _ => by omega
  | _, 0, _, _, _, h => by omega
  | f + 1, g + 1, r, a, hf, hg => by
    unfold toksS
    by_cases c : r = []
    · rw [if_pos c, if_pos c]
    · rw [if_neg c, if_neg c]
      by_cases c1 : (pieceP r).size = 0
      · rw [if_pos c1, if_pos c1]
      · rw [if_neg c1, if_neg c1]
        have hl : 0 < r.length := List.length_pos_iff.2 c
        have e := toksS_fuel f g (r.drop (pieceP r).size) (a + (pieceP r).size) (by rw [List.length_drop]; omega) (by rw [List.length_drop]; omega)
        rw [e]
def T (r : List UInt8) (a : Nat) : List Yd := toksS (r.length + 1) r a
theorem src_T (l : List UInt8) (h : l.length ≤ 65536) : srcY l = T l 0 := by
  unfold srcY
  rw [if_neg (by omega), toksY_S]
  rfl
theorem T_nil (a : Nat) : T [] a = [⟨endTk, a, 0, 0⟩] := rfl
section
variable {r : List UInt8} {a : Nat}
theorem T_step (hr : r ≠ []) : T r a = if (pieceP r).size = 0 then [⟨noTk, 0, 60, a⟩] else if (pieceP r).code ≠ 0 then [⟨noTk, 0, (pieceP r).code, a⟩] else if (pieceP r).t.kind ≠ 0 then ⟨(pieceP r).t, a, 0, 0⟩ :: T (r.drop (pieceP r).size) (a + (pieceP r).size) else T (r.drop (pieceP r).size) (a + (pieceP r).size) := by
  have hl : 0 < r.length := List.length_pos_iff.2 hr
  by_cases c1 : (pieceP r).size = 0
  · rw [if_pos c1]
    unfold T
    conv => lhs; unfold toksS
    rw [if_neg hr, if_pos c1]
  · have e := toksS_fuel r.length ((r.drop (pieceP r).size).length + 1) (r.drop (pieceP r).size) (a + (pieceP r).size) (by rw [List.length_drop]; omega) (by omega)
    rw [if_neg c1]
    unfold T
    conv => lhs; unfold toksS
    rw [if_neg hr, if_neg c1, e]
end
theorem piece_blank (c : UInt8) (r : List UInt8) (h : blankB c = true) : pieceP (c :: r) = ⟨noTk, runN blankB r + 1, 0⟩ := by
  have g : gapN (c :: r) = runN blankB r + 1 := by
    unfold gapN
    rw [if_neg (by intro e; injection e with e; subst e; revert h; decide), runN_cons_t h]
  unfold pieceP
  have : gapP (c :: r) = ⟨noTk, runN blankB r + 1, 0⟩ := by unfold gapP; rw [g]
  rw [this, orPc_some (by simp)]
theorem T_blank (c : UInt8) (r : List UInt8) (a : Nat) (h : blankB c = true) : T (c :: r) a = T r (a + 1) := by
  have e := piece_blank c r h
  rw [T_step (by simp), e]
  simp only [Nat.add_eq_zero_iff, Nat.one_ne_zero, and_false, if_false]
  have k0 : noTk.kind = 0 := rfl
  rw [k0]
  simp only [ne_eq, not_true_eq_false, if_false, List.drop_succ_cons]
  cases r with
  | nil => rfl
  | cons d q =>
    by_cases hd : blankB d = true
    · have e2 := piece_blank d q hd
      rw [T_step (r := d :: q) (by simp), e2]
      simp only [Nat.add_eq_zero_iff, Nat.one_ne_zero, and_false, if_false]
      rw [k0]
      simp only [ne_eq, not_true_eq_false, if_false, List.drop_succ_cons]
      rw [runN_cons_t hd]
      simp only [List.drop_succ_cons]
      congr 1
      omega
    · rw [runN_cons_f (by simpa using hd)]
      rfl
/-- a remark goes on to the line's end, or the text's -/
theorem piece_remark (r : List UInt8) : pieceP (35 :: r) = ⟨noTk, runN lineB r + 1, 0⟩ := by
  have g : gapN (35 :: r) = runN lineB r + 1 := by
    unfold gapN
    rw [if_pos (show (35 :: r).head? = some 35 from rfl), runN_cons_t (by decide)]
  unfold pieceP
  have : gapP (35 :: r) = ⟨noTk, runN lineB r + 1, 0⟩ := by unfold gapP; rw [g]
  rw [this, orPc_some (by simp)]
theorem T_remark (r : List UInt8) (a : Nat) : T (35 :: r) a = T (r.drop (runN lineB r)) (a + (runN lineB r + 1)) := by
  rw [T_step (by simp), piece_remark r]
  simp only [Nat.add_eq_zero_iff, Nat.one_ne_zero, and_false, if_false]
  have k0 : noTk.kind = 0 := rfl
  rw [k0]
  simp only [ne_eq, not_true_eq_false, if_false, List.drop_succ_cons]
/-- a piece that is no fault is a token -/
def TokPc (p : Pc) : Prop := p.size ≠ 0 → p.code = 0 → p.t.kind ≠ 0
theorem tok_no : TokPc noPc := fun h _ => absurd rfl h
theorem tok_bad (n : Nat) (c : Int) (h : c ≠ 0) : TokPc (badPc n c) := fun _ h2 => absurd h2 h
theorem tok_ok (t : Tk) (n : Nat) (h : t.kind ≠ 0) : TokPc (okPc t n) := fun _ _ => h
theorem tok_or {a b : Pc} (ha : TokPc a) (hb : TokPc b) : TokPc (orPc a b) := by
  unfold orPc
  split
  · exact hb
  · exact ha
theorem named_kind (l : List UInt8) : (namedT l).kind ≠ 0 := by
  unfold namedT
  split
  · decide
  · split
    · decide
    · split
      · show (2 : Int) ≠ 0; decide
      · show (1 : Int) ≠ 0; decide
theorem quote_kind : ∀ (f : Nat) (r : List UInt8) (k : Nat) (acc : List UInt8), TokPc (quoteGo f r k acc)
  | 0, r, k, acc => by unfold quoteGo; exact tok_bad _ _ (by decide)
  | f + 1, [], k, acc => by rw [quote_end]; exact tok_bad _ _ (by decide)
  | f + 1, c :: q, k, acc => by
    by_cases c1 : c = 34
    · rw [quote_stop (f + 1) k c q acc (by omega) c1]
      exact tok_ok _ _ (show (6 : Int) ≠ 0 by decide)
    · by_cases c2 : (speltP (c :: q)).2 = 0
      · rw [quote_bad (f + 1) k c q acc (by omega) c1 c2]
        exact tok_bad _ _ (by decide)
      · rw [quote_on f k c q acc c1 c2]
        exact quote_kind f _ _ _
theorem rest_tok (r : List UInt8) : TokPc (orPc (nameP r) (orPc (doubleP r) (orPc (wholeP r) (orPc (quotedP r) (markP r))))) := by
  refine tok_or ?_ (tok_or ?_ (tok_or ?_ (tok_or ?_ ?_)))
  · unfold nameP
    split
    · exact tok_no
    · split
      · exact tok_bad _ _ (by decide)
      · exact tok_ok _ _ (named_kind _)
  · unfold doubleP
    split
    · split
      · exact tok_ok _ _ (show (5 : Int) ≠ 0 by decide)
      · exact tok_bad _ _ (by decide)
    · exact tok_no
  · unfold wholeP
    split
    · exact tok_no
    · split
      · exact tok_ok _ _ (show (4 : Int) ≠ 0 by decide)
      · exact tok_bad _ _ (by decide)
  · unfold quotedP
    split
    · exact quote_kind _ _ _ _
    · exact tok_no
  · unfold markP
    split
    · exact tok_ok _ _ (show (3 : Int) ≠ 0 by decide)
    · exact tok_no
/-- what has no token is a gap -/
theorem piece_gap (c : UInt8) (r : List UInt8) (hs : (pieceP (c :: r)).size ≠ 0) (hc : (pieceP (c :: r)).code = 0) (hk : (pieceP (c :: r)).t.kind = 0) : c = 35 ∨ blankB c = true := by
  by_cases h1 : c = 35
  · exact .inl h1
  · right
    cases h2 : blankB c
    · exfalso
      have g := gap_none c r h1 h2
      unfold pieceP at hs hc hk
      rw [orPc_none g] at hs hc hk
      exact rest_tok _ hs hc hk
    · rfl
/-- all is well, and the end stands at n -/
def Well (L ts : List Yd) (n : Nat) : Prop := L = ts ++ [⟨endTk, (n : Nat), 0, 0⟩] ∧ ∀ y ∈ ts, y.c = 0
/-- a text with a line's end and another one behind it -/
theorem T_two (n : Nat) : ∀ (r B : List UInt8) (a : Nat) (ts : List Yd), r.length ≤ n → Well (T r a) ts (a + r.length) → T (r ++ 10 :: B) a = ts ++ T B (a + r.length + 1) := by
  induction n with
  | zero =>
    intro r B a ts hr hw
    have hr0 : r = [] := List.eq_nil_of_length_eq_zero (by omega)
    subst hr0
    have e : ts = [] := by
      have h1 := hw.1
      rw [T_nil] at h1
      cases ts with
      | nil => rfl
      | cons y ts => have := congrArg List.length h1; simp at this
    subst e
    rw [List.nil_append, List.nil_append, T_blank 10 B a (by decide)]
    rfl
  | succ n ih =>
    intro r B a ts hr hw
    cases r with
    | nil => exact ih [] B a ts (by simp) hw
    | cons c r =>
      have hle := piece_le (c :: r)
      obtain ⟨hw1, hw2⟩ := hw
      have hst := T_step (r := c :: r) (a := a) (by simp)
      by_cases c1 : (pieceP (c :: r)).size = 0
      · exfalso
        rw [if_pos c1, hw1] at hst
        cases ts with
        | nil => have := congrArg (fun l : List Yd => (l[0]?).map (·.c)) hst; simp at this
        | cons y ts => have := congrArg List.length hst; simp at this
      · rw [if_neg c1] at hst
        by_cases c2 : (pieceP (c :: r)).code = 0
        · rw [if_neg (by rw [c2]; decide)] at hst
          by_cases c3 : (pieceP (c :: r)).t.kind = 0
          · rcases piece_gap c r c1 c2 c3 with rfl | hb
            · rw [T_remark] at hw1
              have hrl := runN_le lineB r
              have hd : ((r ++ 10 :: B).drop (runN lineB (r ++ 10 :: B))) = r.drop (runN lineB r) ++ 10 :: B ∧ runN lineB (r ++ 10 :: B) = runN lineB r := by
                have e : runN lineB (r ++ 10 :: B) = runN lineB r := by
                  clear hw1 hw2 hle c1 c2 c3 hst hr ih hrl
                  induction r with
                  | nil => exact runN_cons_f (by decide)
                  | cons d q ihq =>
                    cases e : lineB d
                    · rw [List.cons_append, runN_cons_f e, runN_cons_f e]
                    · rw [List.cons_append, runN_cons_t e, runN_cons_t e, ihq]
                exact ⟨by rw [e]; exact List.drop_append_of_le_length hrl, e⟩
              rw [List.cons_append, T_remark, hd.1, hd.2]
              have hlen : (r.drop (runN lineB r)).length = r.length - runN lineB r := List.length_drop ..
              rw [ih (r.drop (runN lineB r)) B (a + (runN lineB r + 1)) ts (by rw [hlen]; simp at hr; omega) ⟨by rw [hw1]; congr 3; rw [hlen]; simp; omega, hw2⟩]
              congr 2
              rw [hlen]; simp; omega
            · rw [T_blank c r a hb] at hw1
              rw [List.cons_append, T_blank c _ a hb, ih r B (a + 1) ts (by simpa using hr) ⟨by rw [hw1]; congr 3; simp; omega, hw2⟩]
              congr 2
              simp; omega
          · rw [if_pos c3, hw1] at hst
            obtain ⟨p, hp⟩ : ∃ p, pieceP (c :: r) = p := ⟨_, rfl⟩
            rw [hp] at hle c1 c2 c3 hst
            have hpo : p = okPc p.t p.size := by cases p; simp at c2; subst c2; rfl
            cases ts with
            | nil =>
              exfalso
              have h1 := congrArg List.length hst
              have h2 := congrArg (fun l : List Yd => (l[0]?).map (·.a)) hst
              simp at h2
              simp at hle
              omega
            | cons y ts =>
              rw [List.cons_append] at hst
              injection hst with h1 h2
              have hx : (c :: r).take p.size ++ (c :: r).drop p.size = c :: r := List.take_append_drop ..
              have hxl : ((c :: r).take p.size).length = p.size := by rw [List.length_take]; omega
              have hloc : pieceP ((c :: r) ++ 10 :: B) = p := by
                have h3 : pieceP ((c :: r).take p.size ++ (c :: r).drop p.size) = okPc p.t ((c :: r).take p.size).length := by rw [hx, hxl, hp]; exact hpo
                have hlk : Likes ((c :: r).drop p.size) ((c :: r).drop p.size ++ 10 :: B) := by
                  cases hq : (c :: r).drop p.size with
                  | nil => exact .inr (.inl rfl)
                  | cons d q => exact .inr (.inr rfl)
                have h4 := piece_like _ _ _ hlk p.t (by intro e; rw [e] at hxl; simp at hxl; omega) c3 h3
                rw [← List.append_assoc, hx, hxl] at h4
                rw [h4]; exact hpo.symm
              rw [T_step (r := c :: r ++ 10 :: B) (by simp), hloc, if_neg c1, if_neg (by rw [c2]; decide), if_pos c3]
              have hdl : ((c :: r).drop p.size).length = (c :: r).length - p.size := List.length_drop ..
              have hd : ((c :: r) ++ 10 :: B).drop p.size = (c :: r).drop p.size ++ 10 :: B := List.drop_append_of_le_length hle
              rw [hd, ih ((c :: r).drop p.size) B (a + p.size) ts (by rw [hdl]; simp at hr ⊢; omega) ⟨by rw [← h2]; congr 3; rw [hdl]; omega, fun z hz => hw2 z (by simp [hz])⟩, ← h1]
              rw [List.cons_append]
              congr 3
              rw [hdl]; omega
        · exfalso
          rw [if_pos c2, hw1] at hst
          cases ts with
          | nil => have := congrArg (fun l : List Yd => (l[0]?).map (·.c)) hst; simp at this; exact c2 this.symm
          | cons y ts => have := congrArg List.length hst; simp at this
/-- as it is told where the text stands k bytes further on -/
def shY (k : Nat) (y : Yd) : Yd := if y.c = 0 then ⟨y.t, y.a + k, y.c, y.f⟩ else ⟨y.t, y.a, y.c, y.f + k⟩
theorem T_shift (k n : Nat) : ∀ (r : List UInt8) (a : Nat), r.length ≤ n → T r (a + k) = (T r a).map (shY k) := by
  induction n with
  | zero =>
    intro r a hr
    have hr0 : r = [] := List.eq_nil_of_length_eq_zero (by omega)
    subst hr0
    rw [T_nil, T_nil]
    simp [shY]
  | succ n ih =>
    intro r a hr
    cases r with
    | nil => exact ih [] a (by simp)
    | cons c r =>
      rw [T_step (by simp), T_step (r := c :: r) (a := a) (by simp)]
      have hle := piece_le (c :: r)
      by_cases c1 : (pieceP (c :: r)).size = 0
      · rw [if_pos c1, if_pos c1]
        simp [shY]
      · rw [if_neg c1, if_neg c1]
        by_cases c2 : (pieceP (c :: r)).code = 0
        · have c2' : ¬ (pieceP (c :: r)).code ≠ 0 := fun h => h c2
          rw [if_neg c2', if_neg c2']
          have hdl : ((c :: r).drop (pieceP (c :: r)).size).length ≤ n := by rw [List.length_drop]; simp at hr ⊢; omega
          have e := ih ((c :: r).drop (pieceP (c :: r)).size) (a + (pieceP (c :: r)).size) hdl
          have e2 : a + k + (pieceP (c :: r)).size = a + (pieceP (c :: r)).size + k := by omega
          rw [e2, e]
          split
          · simp [shY]
          · rfl
        · rw [if_pos c2, if_pos c2]
          simp [shY, c2]
/-- how all ends: well, or with a fault -/
theorem T_form (n : Nat) : ∀ (r : List UInt8) (a : Nat), r.length ≤ n → ∃ ts z, T r a = ts ++ [z] ∧ (∀ y ∈ ts, y.c = 0 ∧ (a : Int) ≤ y.a ∧ y.a ≤ ((a + r.length : Nat) : Int)) ∧ (z = ⟨endTk, ((a + r.length : Nat) : Int), 0, 0⟩ ∨ (z.c ≠ 0 ∧ z.a = 0 ∧ (a : Int) ≤ z.f ∧ z.f ≤ ((a + r.length : Nat) : Int))) := by
  induction n with
  | zero =>
    intro r a hr
    have hr0 : r = [] := List.eq_nil_of_length_eq_zero (by omega)
    subst hr0
    exact ⟨[], _, rfl, by simp, .inl rfl⟩
  | succ n ih =>
    intro r a hr
    cases r with
    | nil => exact ih [] a (by simp)
    | cons c r =>
      rw [T_step (by simp)]
      have hle := piece_le (c :: r)
      by_cases c1 : (pieceP (c :: r)).size = 0
      · rw [if_pos c1]
        refine ⟨[], _, rfl, by simp, .inr ⟨show (60 : Int) ≠ 0 by decide, rfl, Int.le_refl _, ?_⟩⟩
        show (a : Int) ≤ _
        omega
      · rw [if_neg c1]
        by_cases c2 : (pieceP (c :: r)).code = 0
        · rw [if_neg (by rw [c2]; decide)]
          have hdl : ((c :: r).drop (pieceP (c :: r)).size).length ≤ n := by rw [List.length_drop]; simp at hr ⊢; omega
          obtain ⟨ts, z, h1, h2, h3⟩ := ih ((c :: r).drop (pieceP (c :: r)).size) (a + (pieceP (c :: r)).size) hdl
          have el : a + (pieceP (c :: r)).size + ((c :: r).drop (pieceP (c :: r)).size).length = a + (c :: r).length := by rw [List.length_drop]; omega
          rw [el] at h2 h3
          have h2' : ∀ y ∈ ts, y.c = 0 ∧ (a : Int) ≤ y.a ∧ y.a ≤ ((a + (c :: r).length : Nat) : Int) := fun y hy => ⟨(h2 y hy).1, by have := (h2 y hy).2.1; omega, (h2 y hy).2.2⟩
          have h3' : z = ⟨endTk, ((a + (c :: r).length : Nat) : Int), 0, 0⟩ ∨ (z.c ≠ 0 ∧ z.a = 0 ∧ (a : Int) ≤ z.f ∧ z.f ≤ ((a + (c :: r).length : Nat) : Int)) := by
            rcases h3 with h3 | ⟨q1, q2, q3, q4⟩
            · exact .inl h3
            · exact .inr ⟨q1, q2, by omega, q4⟩
          split
          · refine ⟨_ :: ts, z, by rw [h1]; rfl, ?_, h3'⟩
            intro y hy
            rcases List.mem_cons.1 hy with rfl | hy
            · refine ⟨rfl, Int.le_refl _, ?_⟩
              show (a : Int) ≤ _
              omega
            · exact h2' y hy
          · exact ⟨ts, z, h1, h2', h3'⟩
        · rw [if_pos c2]
          refine ⟨[], _, rfl, by simp, .inr ⟨c2, rfl, Int.le_refl _, ?_⟩⟩
          show (a : Int) ≤ _
          omega
end Go.Proofs.YtdoojooepkdlhaaDoor.W
/- Package lex: All, over what Tokens tells. -/
namespace Go.Proofs.YtdoojooepkdlhaaDoor.W
open Go.ChangeShapes Go.WideShapes Go.RowKit Go.Shelf
set_option linter.unusedVariables false
theorem owns_onX {W W' : World} {b : Nat} {e : TypeId} {size : Nat} {v : Value} {n : Nat} {xs : List Value} (ho : W.ownsRow b e size v n xs) (hk : ∀ k, v.ownBlock = some k → W'.heap[k]? = W.heap[k]?) : W'.ownsRow b e size v n xs := by
  refine ⟨ho.1, ?_⟩
  rcases ho.2 with h2 | ⟨g, cap, cur, rfl, h2, h3, h4⟩
  · exact .inl h2
  · exact .inr ⟨g, cap, cur, rfl, h2, (hk g rfl).trans h3, h4⟩
theorem slice_ofX {W : World} {b : Nat} {e : TypeId} {size : Nat} {v : Value} {n : Nat} {xs : List Value} (h : W.ownsRow b e size v n xs) : ∃ o cap, v = .slice o n cap := by
  rcases h.2 with ⟨rfl, rfl⟩ | ⟨g, cap, cur, rfl, _⟩
  · exact ⟨none, 0, rfl⟩
  · exact ⟨_, cap, rfl⟩
/-- along All: i tokens are there -/
structure AllI (w : World) (s : ByteArray) (Ys : List Yd) (i : Nat) (D : Nat → Prop) (W : World) : Prop where
  bel : Below w.heap.size w W
  sz : w.heap.size + 4 ≤ W.heap.size
  r2 : W.heap[w.heap.size]? = some (.cells #[.slice none 0 0] 22 (0, 0))
  r3 : W.heap[w.heap.size + 1]? = some (.cells #[.int .i64 0, .int .i64 0] 25 (0, 0))
  src : W.heap[w.heap.size + 3]? = some (.cells #[.string s] 9 (0, 0))
  ok : ∀ y ∈ Ys.take i, y.c = 0
  row : ∃ v, W.heap[w.heap.size + 2]? = some (.cells #[v] 22 (0, 0)) ∧ W.ownsRow w.heap.size 30 5 v i (rowsY (Ys.take i)) ∧ (∀ k, v.ownBlock = some k → w.heap.size + 6 ≤ k) ∧ ∀ k, D k ↔ k = w.heap.size + 2 ∨ v.ownBlock = some k
/-- how All ends early -/
structure AllX (w : World) (Ys : List Yd) (c : Code) (W : World) : Prop where
  code : c = .ret
  bel : Below w.heap.size w W
  sz : w.heap.size + 4 ≤ W.heap.size
  r2 : W.heap[w.heap.size]? = some (.cells #[.slice none 0 0] 22 (0, 0))
  bad : ∃ y, Ys.find? (fun y => y.c != 0) = some y ∧ W.heap[w.heap.size + 1]? = some (.cells #[.int .i64 y.c, .int .i64 y.f] 25 (0, 0))
section
variable {w W W' : World} {s : ByteArray} {Ys : List Yd} {i : Nat} {D : Nat → Prop}
theorem AllI.upd (q : AllI w s Ys i D W) (hu : It.Upd (fun k => k = w.heap.size + 5) W W') : AllI w s Ys i D W' := by
  obtain ⟨v, h1, h2, h3, h4⟩ := q.row
  have z := q.sz
  have kp : ∀ k o, k < w.heap.size + 4 → W.heap[k]? = some o → W'.heap[k]? = some o := fun k o hk e => (hu.block k (by omega) (by omega)).trans e
  refine ⟨⟨hu.os.trans q.bel.os, hu.tape.trans q.bel.tape, hu.output.trans q.bel.output, Nat.le_trans q.bel.size hu.size, fun k hk => (hu.block k (by omega) (by omega)).trans (q.bel.block k hk)⟩, Nat.le_trans z hu.size, kp _ _ (by omega) q.r2, kp _ _ (by omega) q.r3, kp _ _ (by omega) q.src, q.ok, v, kp _ _ (by omega) h1, owns_onX h2 (fun k e => hu.block k (h2.lt k e).2 (by have := h3 k e; omega)), h3, h4⟩
theorem AllX.upd {c : Code} (q : AllX w Ys c W) (hu : It.Upd (fun k => k = w.heap.size + 5) W W') : AllX w Ys c W' := by
  have z := q.sz
  have kp : ∀ k o, k < w.heap.size + 4 → W.heap[k]? = some o → W'.heap[k]? = some o := fun k o hk e => (hu.block k (by omega) (by omega)).trans e
  obtain ⟨y, h1, h2⟩ := q.bad
  exact ⟨q.code, ⟨hu.os.trans q.bel.os, hu.tape.trans q.bel.tape, hu.output.trans q.bel.output, Nat.le_trans q.bel.size hu.size, fun k hk => (hu.block k (by omega) (by omega)).trans (q.bel.block k hk)⟩, Nat.le_trans z hu.size, kp _ _ (by omega) q.r2, y, h1, kp _ _ (by omega) h2⟩
end
def allN (y : Yd) (W : World) : World := (W.alloc (.cells (cellsA y) 30)).alloc (.cells #[.int .i64 y.c, .int .i64 y.f] 25)
def allA (a : Act) (y : Yd) (W : World) : Act := { tmps := (((a.tmps.setIfInBounds 9 (tv y.t y.a)).setIfInBounds 10 (.agg #[.int .i64 y.c, .int .i64 y.f])).setIfInBounds 5 (.pointer (some ⟨W.heap.size, 0, none⟩))).setIfInBounds 6 (.pointer (some ⟨W.heap.size + 1, 0, none⟩)), defers := [] }
/-- the world as a round begins -/
structure AllB (w : World) (s : ByteArray) (Ys : List Yd) (i : Nat) (D : Nat → Prop) (y : Yd) (W Wb : World) : Prop where
  q : AllI w s Ys i D Wb
  tok : Wb.heap[W.heap.size]? = some (.cells (cellsA y) 30 (0, 0))
  flt : Wb.heap[W.heap.size + 1]? = some (.cells #[.int .i64 y.c, .int .i64 y.f] 25 (0, 0))
  big : w.heap.size + 6 ≤ W.heap.size
theorem allB_of {w W : World} {s : ByteArray} {Ys : List Yd} {i : Nat} {D : Nat → Prop} {y : Yd} (q : AllI w s Ys i D W) (h6 : w.heap.size + 6 ≤ W.heap.size) (o : Obj) : AllB w s Ys i D y W ((allN y W).putObj (w.heap.size + 5) o) := by
  have hB : Below W.heap.size W (allN y W) := ((Below.refl _ W).alloc (Nat.le_refl _) _).alloc (by simp) _
  have q1 : AllI w s Ys i D (allN y W) := q.upd (It.Upd.of_below hB)
  refine ⟨q1.upd (It.upd_put (S := fun k => k = w.heap.size + 5) rfl o), ?_, ?_, h6⟩
  · rw [World.putObj_heap_other (by omega)]
    exact (Below.heap_alloc _ _ _ (by simp)).trans (World.alloc_heap_new W _)
  · rw [World.putObj_heap_other (by omega)]
    have := World.alloc_heap_new (W.alloc (.cells (cellsA y) 30)) (.cells #[.int .i64 y.c, .int .i64 y.f] 25)
    rwa [World.size_alloc] at this
end Go.Proofs.YtdoojooepkdlhaaDoor.W
/- A region that draws its order, in a round of a range over a function: as anywhere. -/
namespace Go.Proofs.YtdoojooepkdlhaaDoor.W.It
open Go.ChangeShapes Go.WideShapes Go.RowKit Go.Shelf
set_option linter.unusedVariables false
theorem opIn_of_wp {P : Program} {L n : Nat} {o : Oper} {a : Act} {w : World} {K K' : Act → World → Prop} {Q : Exit → Act → World → Prop} (hd : ∀ c, o.op ≠ .defer c) (hK : ∀ a w, K a w → K' a w) (h : o.wp P a w K Q) : o.wpIn (Fence.wide.inRound L) n P a w K' Q := by
  refine ⟨fun _ _ => trivial, ?_⟩
  rw [Oper.semAt_eq _ _ _ hd]
  unfold Oper.wp at h
  generalize (execOp a.eval o).run P w = r at *
  cases r with
  | ok x w' =>
    cases x with
    | value v => exact hK _ _ h
    | skip => exact hK _ _ h
    | defer d => exact hK _ _ h
    | enter f args =>
      refine ⟨fun e => by simp [Fence.wide, Fence.inRound] at e, ?_⟩
      refine CallsIn.inRound L (callsIn_wide.2 (Calls.mono h ?_))
      intro e w'' he
      cases e with
      | returned v => exact hK _ _ he
      | panicked ch => exact he
      | outgrown => exact he
    | row row args =>
      refine ⟨fun e => by simp [Fence.wide, Fence.inRound] at e, ?_⟩
      intro c cs _
      obtain ⟨v, w'', hr, hs⟩ := h c cs
      exact ⟨v, w'', hK _ _ hr, stepsIn_wide.2 hs⟩
    | round l f tmps assign body => exact h.elim
    | _ => exact h.elim
  | halt x w' => cases x <;> first | exact h | exact h.elim
theorem opsIn_of_wp {P : Program} {L n : Nat} {ops : Array Oper} {i : Nat} {a : Act} {w : World} {K K' : Act → World → Prop} {Q : Exit → Act → World → Prop} (hd : ∀ (i : Nat) (o : Oper), ops[i]? = some o → ∀ c, o.op ≠ .defer c) (hno : ¬ LetsOut Q) (hK : ∀ a w, K a w → K' a w) (h : wpOp P ops Q i K a w) : wpOpIn (Fence.wide.inRound L) n P ops Q i K' a w := by
  unfold wpOp at h
  unfold wpOpIn
  cases ho : ops[i]? with
  | none => rw [ho] at h; exact hK _ _ h
  | some o =>
    rw [ho] at h
    simp only at h ⊢
    split
    · rename_i hw
      rw [if_pos hw] at h
      rcases h with h | h
      · exact opIn_of_wp (hd i o ho) hK h
      · exact absurd h.2 hno
    · rename_i hw
      rw [if_neg hw] at h
      exact ⟨fun _ _ => trivial, hK _ _ h⟩
theorem anyIn_of_held {P : Program} {L n : Nat} {ops : Array Oper} {md : Region.Mode} {S : World → Prop} {Q : Exit → Act → World → Prop} (hd : ∀ (i : Nat) (o : Oper), ops[i]? = some o → ∀ c, o.op ≠ .defer c) (hno : ¬ LetsOut Q) :
    ∀ (fuel : Nat) (listed : Array Bool) (a : Act) (w : World), wpAnyH P md ops Q S fuel listed a w → wpAnyIn (Fence.wide.inRound L) n P md ops Q fuel listed a w
  | 0, _, _, _, h => h
  | fuel + 1, listed, a, w, h => ⟨h.1, fun i hi => opsIn_of_wp hd hno (fun a' w' h' => anyIn_of_held hd hno fuel _ a' w' h'.2) (h.2 i hi)⟩
theorem anyIn_of_any {P : Program} {L n : Nat} {ops : Array Oper} {md : Region.Mode} {Q : Exit → Act → World → Prop} (hd : ∀ (i : Nat) (o : Oper), ops[i]? = some o → ∀ c, o.op ≠ .defer c) (hno : ¬ LetsOut Q) :
    ∀ (fuel : Nat) (listed : Array Bool) (a : Act) (w : World), wpAny P md ops Q fuel listed a w → wpAnyIn (Fence.wide.inRound L) n P md ops Q fuel listed a w
  | 0, _, _, _, h => h
  | fuel + 1, listed, a, w, h => ⟨h.1, fun i hi => opsIn_of_wp hd hno (fun a' w' h' => anyIn_of_any hd hno fuel _ a' w' h') (h.2 i hi)⟩
/-- is no operation of a region a defer statement? -/
def noDefer (ops : Array Oper) : Bool := ops.all (fun o => match o.op with | .defer _ => false | _ => true)
theorem noDefer_spec {ops : Array Oper} (h : noDefer ops = true) : ∀ (i : Nat) (o : Oper), ops[i]? = some o → ∀ c, o.op ≠ .defer c := by
  intro i o ho c hc
  obtain ⟨hi, e⟩ := Array.getElem?_eq_some_iff.1 ho
  have := (Array.all_eq_true.1 h) i hi
  rw [e, hc] at this
  cases this
/-- the beginning, where one condition on the world holds along the region -/
theorem round_held {P : Program} {L n id : Nat} {ops : Array Oper} {S : World → Prop} {Q : Exit → Act → World → Prop} {a : Act} {w : World} (hm : P.follows .mixedOrders = true) (hd : noDefer ops = true) (hno : ¬ LetsOut Q) (h : wpAnyH P .any ops Q S ops.size (Array.replicate ops.size false) a w.drew) : (Code.region id ops true).wpIn (Fence.wide.inRound L) n P Q a w :=
  wpIn_region_any hm (anyIn_of_held (noDefer_spec hd) hno _ _ _ _ h)
/-- a region that only reads -/
theorem round_quiet {P : Program} {L n id : Nat} {l : List Oper} {Q : Exit → Act → World → Prop} {a : Act} {w : World} (hm : P.follows .mixedOrders = true) (hd : noDefer l.toArray = true) (hno : ¬ LetsOut Q) (hB : Region.lexB .any l.toArray = true)
    (h : wpQuiet P l.toArray (fun w' => ∃ n, w' = w.drewN n) (fun a' => ∀ w', (∃ n, w' = w.drewN n) → Q .normal a' w') l a) : (Code.region id l.toArray true).wpIn (Fence.wide.inRound L) n P Q a w := by
  simp only [Region.lexB, Bool.and_eq_true] at hB
  refine wpIn_region_any hm (anyIn_of_any (noDefer_spec hd) hno _ _ _ _ (wpAny_of_quiet (C := fun w' => ∃ n, w' = w.drewN n) (Q := fun a' => ∀ w', (∃ n, w' = w.drewN n) → Q .normal a' w') (fun _ w' hw' h => h w' hw') _ _ _ _ ⟨1, rfl⟩ ?_))
  have := wpAnyQ_lex (C := fun w' => ∃ n, w' = w.drewN n) (md := .any) hB.1 l 0 (Array.replicate l.toArray.size false) a (by simp) (by simpa using hB.2) h
  simpa using this
end Go.Proofs.YtdoojooepkdlhaaDoor.W.It
/- Package lex: All. -/
namespace Go.Proofs.YtdoojooepkdlhaaDoor.W
open Go.ChangeShapes Go.WideShapes Go.RowKit Go.Shelf
set_option linter.unusedVariables false
set_option linter.unusedSimpArgs false
/-- what All answers -/
def AllR (Ys : List Yd) (B : Nat) (e : Ending) (w' : World) : Prop :=
  (∃ y, Ys.find? (fun y => y.c != 0) = some y ∧ e = .returned (.tuple #[.slice none 0 0, .agg #[.int .i64 y.c, .int .i64 y.f]])) ∨
  ((∀ y ∈ Ys, y.c = 0) ∧ ∃ v, e = .returned (.tuple #[v, .agg #[.int .i64 0, .int .i64 0]]) ∧ w'.ownsRow B 30 5 v Ys.length (rowsY Ys))
theorem find_at (Ys : List Yd) (i : Nat) (y : Yd) (hi : i < Ys.length) (hy : Ys.getD i ⟨noTk, 0, 0, 0⟩ = y) (ok : ∀ z ∈ Ys.take i, z.c = 0) (hc : ¬ y.c = 0) : Ys.find? (fun y => y.c != 0) = some y := by
  rw [List.getD_eq_getElem?_getD, List.getElem?_eq_getElem hi] at hy
  have hy' : Ys[i] = y := hy
  rw [← List.take_append_drop i Ys, List.find?_append]
  have h1 : (Ys.take i).find? (fun y => y.c != 0) = none := by
    rw [List.find?_eq_none]
    intro z hz
    simp [ok z hz]
  rw [h1, List.drop_eq_getElem_cons hi, hy', List.find?_cons]
  have h2 : (y.c != 0) = true := by simp [hc]
  rw [h2]
  rfl
def noYd : Yd := ⟨noTk, 0, 0, 0⟩
theorem zip_two (t : Array Value) (p q : Nat) (u v : Value) : Array.foldl (fun (t : Array Value) (x : Tmp × Value) => match x with | (p, v) => t.setIfInBounds p v) t (#[p, q].zip #[u, v]) = (t.setIfInBounds p u).setIfInBounds q v := by simp
theorem all_start (w : World) (s : ByteArray) (Ys : List Yd) : AllI w s Ys 0 (fun k => k = w.heap.size + 2) ((((w.alloc (.cells #[.slice none 0 0] 22)).alloc (.cells #[.int .i64 0, .int .i64 0] 25)).alloc (.cells #[.slice none 0 0] 22)).alloc (.cells #[.string s] 9)) := by
  have n1 := World.alloc_heap_new w (.cells #[.slice none 0 0] 22)
  have n2 := World.alloc_heap_new (w.alloc (.cells #[.slice none 0 0] 22)) (.cells #[.int .i64 0, .int .i64 0] 25)
  have n3 := World.alloc_heap_new ((w.alloc (.cells #[.slice none 0 0] 22)).alloc (.cells #[.int .i64 0, .int .i64 0] 25)) (.cells #[.slice none 0 0] 22)
  have n4 := World.alloc_heap_new (((w.alloc (.cells #[.slice none 0 0] 22)).alloc (.cells #[.int .i64 0, .int .i64 0] 25)).alloc (.cells #[.slice none 0 0] 22)) (.cells #[.string s] 9)
  simp only [World.size_alloc] at n2 n3 n4
  refine ⟨((((Below.refl _ w).alloc (Nat.le_refl _) _).alloc (by simp) _).alloc (by simp only [World.size_alloc]; omega) _).alloc (by simp only [World.size_alloc]; omega) _, by simp, ?_, ?_, n4, by simp, .slice none 0 0, ?_, ?_, by simp [Value.ownBlock], by simp [Value.ownBlock]⟩
  · exact (Below.heap_alloc _ _ _ (by simp only [World.size_alloc]; omega)).trans ((Below.heap_alloc _ _ _ (by simp only [World.size_alloc]; omega)).trans ((Below.heap_alloc _ _ _ (by simp)).trans n1))
  · exact (Below.heap_alloc _ _ _ (by simp only [World.size_alloc]; omega)).trans ((Below.heap_alloc _ _ _ (by simp)).trans n2)
  · exact (Below.heap_alloc _ _ _ (by simp)).trans n3
  · exact World.ownsRow_nil _ _ _ _
set_option maxRecDepth 100000 in
set_option maxHeartbeats 1000000 in
theorem all_core (s : ByteArray) (Ys : List Yd) (hlen : Ys.length ≤ 1000001) (hit : ∀ sb, IterD 11 #[.pointer (some ⟨sb, 0, none⟩)] (Ys.map yy) (fun W => W.cell? ⟨sb, 0, none⟩ = some (.string s) ∧ Tabs W ∧ MarksIn W)) (w : World) (ht : Tabs w) (hm : MarksIn w) :
    Calls Tryd.prog 5 #[.string s] w fun e w' => Below w.heap.size w w' ∧ AllR Ys w.heap.size e w' := by
  have cv := tokens_c
  refine (callsIn_wide (n := 9)).1 ?_
  refine callsIn_of_wp_marks Tryd.func5 rfl trivial ?_ rfl
  refine wpIn_wide.2 ?_
  simp only [Tryd.ntmps5, List.size_toArray, List.length_cons, List.length_nil, Nat.reduceAdd, Nat.reduceSub, Array.replicate_succ, Array.replicate_zero, List.push_toArray, List.append_toArray, List.nil_append, List.cons_append]
  go_wp2_with (go_at_call 6; (with_reducible refine (cv _ _).mono ?_); rintro e w8 ⟨rfl, hw8⟩; (have hw' := hw8.symm); subst hw'; clear hw8)
  have q0 : AllI w s Ys 0 (fun k => k = w.heap.size + 2) ((((w.alloc (.cells #[.slice none 0 0] 22)).alloc (.cells #[.int .i64 0, .int .i64 0] 25)).alloc (.cells #[.slice none 0 0] 22)).alloc (.cells #[.string s] 9)) := all_start w s Ys
  have z0 : ((((w.alloc (.cells #[.slice none 0 0] 22)).alloc (.cells #[.int .i64 0, .int .i64 0] 25)).alloc (.cells #[.slice none 0 0] 22)).alloc (.cells #[.string s] 9)).heap.size = w.heap.size + 4 := by simp
  generalize World.alloc (World.alloc (World.alloc (World.alloc w _) _) _) _ = W0 at *
  have hY : ∀ (i : Nat) (hi : i < (Ys.map yy).length), (Ys.map yy)[i] = yy (Ys.getD i noYd) := fun i hi => by
    rw [List.getElem_map]
    congr 1
    rw [List.getD_eq_getElem?_getD, List.getElem?_eq_getElem (by simpa using hi)]
    rfl
  refine iterD_lawA (hit (w.heap.size + 1 + 1 + 1)) eg_toks rfl (AllI w s Ys) (AllX w Ys) ?hL ?hI ?hIx (fun k => k = w.heap.size + 2) q0 (fun i W => allA { tmps := #[.string s, undef, .pointer (some ⟨w.heap.size, 0, none⟩), .pointer (some ⟨w.heap.size + 1, 0, none⟩), .pointer (some ⟨w.heap.size + 1 + 1, 0, none⟩), undef, undef, .string s, .func (.func 11) #[] #[.pointer (some ⟨w.heap.size + 1 + 1 + 1, 0, none⟩)], undef, undef, undef, undef, undef, undef, undef, undef, undef, undef, undef, undef], defers := [] } (Ys.getD i noYd) W) (fun i W => allN (Ys.getD i noYd) W) ?hN ?hsz ?assign ?body ?done ?stop
  case hL =>
    intro i D W q
    refine ⟨⟨cell_of_row _ _ 0 _ _ _ q.src, ht.below q.bel, hm.below q.bel⟩, ?_⟩
    obtain ⟨v, h1, h2, h3, h4⟩ := q.row
    intro k hk
    rcases (h4 k).1 hk with rfl | e
    · exact (Array.getElem?_eq_some_iff.1 h1).1
    · exact (h2.lt k e).2
  case hI =>
    intro i D W W' q hu
    rw [z0] at hu
    exact q.upd hu
  case hIx =>
    intro c W W' q hu
    rw [z0] at hu
    exact q.upd hu
  case hN => intro i W; exact ((Below.refl _ W).alloc (Nat.le_refl _) _).alloc (by simp) _
  case hsz => intro i hi; rw [hY i hi]; rfl
  case assign =>
    intro L i hi W K hK
    rw [hY i hi]
    generalize Ys.getD i noYd = y at *
    obtain ⟨t, ya, yc, yf⟩ := y
    simp only [yy, yv, tv, zip_two, List.setIfInBounds_toArray, List.set_cons_succ, List.set_cons_zero]
    gi_wp2_with (simp only [Oper.semAt]; go_simp)
    exact hK
  case body =>
    intro L i hi D W o hLe q hs
    rw [z0] at hLe hs
    subst hLe
    obtain ⟨y, hy⟩ : ∃ y, Ys.getD i noYd = y := ⟨_, rfl⟩
    rw [hy]
    have B := allB_of (y := y) q hs o
    rw [z0]
    generalize hWb : (allN y W).putObj (w.heap.size + 4 + 1) o = Wb at *
    clear q
    obtain ⟨v, h1, h2, h3, h4⟩ := B.q.row
    obtain ⟨o9, c9, rfl⟩ := slice_ofX h2
    have c5 := row_cellsX B.tok
    have c6 := row_cellsX B.flt
    have d0 : Wb.cell? ⟨W.heap.size + 1, 0, none⟩ = some (.int .i64 y.c) := c6 0
    have d1 : Wb.cell? ⟨W.heap.size + 1, 1, none⟩ = some (.int .i64 y.f) := c6 1
    have b4 : Wb.cell? ⟨w.heap.size + 1 + 1, 0, none⟩ = some (.slice o9 i c9) := cell_of_row _ _ 0 _ _ _ h1
    have BB := hid B
    have H2 := hid h2
    have H3 := hid h3
    have H4 := hid h4
    simp only [allA, List.setIfInBounds_toArray, List.set_cons_succ, List.set_cons_zero]
    by_cases hc : y.c = 0
    · have hil : i < Ys.length := by simpa using hi
      have hy' : Ys[i] = y := by
        rw [List.getD_eq_getElem?_getD, List.getElem?_eq_getElem hil] at hy
        exact hy
      have hbz : w.heap.size + 6 ≤ Wb.heap.size := by have := B.big; have := (Array.getElem?_eq_some_iff.1 B.tok).1; omega
      obtain ⟨v', w1, hrun, ho', hg, hnil, hk⟩ := append_tok Wb 22 (.slice o9 i c9) i _ h2 (by omega) y (by omega)
      have hU1 : It.Upd (fun k => (Value.slice o9 i c9).ownBlock = some k) (Wb.alloc (.cells (cellsA y) 30)) w1 := (It.Upd.refl _ _).grown hg (fun k e => .inl e)
      have hU : It.Upd (fun k => (Value.slice o9 i c9).ownBlock = some k) Wb w1 := (It.Upd.of_below ((Below.refl _ Wb).alloc (Nat.le_refl _) _)).trans' hU1
      obtain ⟨o8, c8, rfl⟩ := slice_ofX ho'
      have q4 : w1.heap[w.heap.size + 1 + 1]? = some (.cells #[.slice o9 i c9] 22 (0, 0)) := (hU.block _ (by omega) (fun e => by have := h3 _ e; omega)).trans h1
      have cw : w1.cell? ⟨w.heap.size + 1 + 1, 0, none⟩ = some (.slice o9 i c9) := row_cellsX q4 0
      have fw : w1.frozen? ⟨w.heap.size + 1 + 1, 0, none⟩ = false := row_thawX q4 0
      have t0 : Wb.cell? ⟨W.heap.size, 0, none⟩ = some (.int .i64 y.t.kind) := c5 0
      have t1 : Wb.cell? ⟨W.heap.size, 1, none⟩ = some (.int .i64 y.a) := c5 1
      have t2 : Wb.cell? ⟨W.heap.size, 2, none⟩ = some (.string y.t.text) := c5 2
      have t3 : Wb.cell? ⟨W.heap.size, 3, none⟩ = some (.int .i64 y.t.int) := c5 3
      have t4 : Wb.cell? ⟨W.heap.size, 4, none⟩ = some (.int .u64 y.t.bits) := c5 4
      rw [hc] at d0
      have HU := hid hU
      have HO := hid ho'
      have HK := hid hk
      have Q4 := hid q4
      unfold cellsA at hrun
      clear h1 h2 h3 h4 c5 c6 B hit q0 hlen hY hm ht cv hU hU1 hg hnil ho' hk q4
      gi_wp2_with (first | (with_reducible refine gi_append _ (.tmp 15) (.tmp 17) 22 22 rfl _ _ (by simp [Act.eval]) (by simp [Act.eval]) _ _ hrun ?_) | (simp only [Oper.semAt]; go_simp))
      have hne : ∀ k, (Value.slice o9 i c9).ownBlock = some k → w.heap.size + 6 ≤ k := H3.out
      have hloc : ∀ k, (Value.slice o8 (i + 1) c8).ownBlock = some k → w.heap.size + 6 ≤ k := by
        intro k e
        rcases HK.out with e2 | e2
        · rw [e2] at e; exact hne k e
        · rw [e2] at e
          simp only [World.size_alloc, Option.some.injEq] at e
          omega
      have hU2 : It.Upd (fun k => (Value.slice o9 i c9).ownBlock = some k ∨ k = w.heap.size + 1 + 1) Wb (w1.setCell ⟨w.heap.size + 1 + 1, 0, none⟩ (.slice o8 (i + 1) c8)) :=
        (It.Upd.setCell (S := fun k => (Value.slice o9 i c9).ownBlock = some k ∨ k = w.heap.size + 1 + 1) ⟨HU.out.os, HU.out.tape, HU.out.output, HU.out.size, fun k hk2 hn => HU.out.block k hk2 (fun e => hn (.inl e))⟩ (p := ⟨w.heap.size + 1 + 1, 0, none⟩) (.inl (.inr rfl)) _)
      have bx2 : (w1.setCell ⟨w.heap.size + 1 + 1, 0, none⟩ (.slice o8 (i + 1) c8)).heap[w.heap.size + 1 + 1]? = some (.cells #[.slice o8 (i + 1) c8] 22 (0, 0)) := heap_setX (c := [.slice o9 i c9]) Q4.out 0 (.slice o8 (i + 1) c8)
      have kp : ∀ k, k < Wb.heap.size → k ≠ w.heap.size + 2 → k < w.heap.size + 6 → (w1.setCell ⟨w.heap.size + 1 + 1, 0, none⟩ (.slice o8 (i + 1) c8)).heap[k]? = Wb.heap[k]? := fun k h1 h2 h3 => hU2.block k h1 (by
        rintro (e | e)
        · have := hne k e; omega
        · omega)
      refine ⟨⟨kp _ (by omega) (by omega) (by omega), kp _ (by omega) (by omega) (by omega)⟩, fun k h1 h2 => hU2.block k h1 (fun e => h2 ((H4.out k).2 (e.elim (fun e => .inr e) (fun e => .inl e)))), (fun k => k = w.heap.size + 2 ∨ (Value.slice o8 (i + 1) c8).ownBlock = some k), ?_⟩
      refine ⟨⟨hU2.os.trans BB.out.q.bel.os, hU2.tape.trans BB.out.q.bel.tape, hU2.output.trans BB.out.q.bel.output, Nat.le_trans BB.out.q.bel.size hU2.size, fun k hk => (kp k (by omega) (by omega) (by omega)).trans (BB.out.q.bel.block k hk)⟩, Nat.le_trans BB.out.q.sz hU2.size, (kp _ (by omega) (by omega) (by omega)).trans BB.out.q.r2, (kp _ (by omega) (by omega) (by omega)).trans BB.out.q.r3, (kp _ (by omega) (by omega) (by omega)).trans BB.out.q.src, ?_, _, bx2, ?_, hloc, fun k => Iff.rfl⟩
      · intro z hz
        rw [List.take_succ_eq_append_getElem hil, List.mem_append] at hz
        rcases hz with hz | hz
        · exact BB.out.q.ok z hz
        · simp at hz
          rw [hz, hy', hc]
      · rw [rowsY_snoc Ys i hil, hy']
        exact owns_onX HO.out (fun k e => Below.heap_setCell _ _ _ _ (by have := hloc k e; show k ≠ w.heap.size + 1 + 1; omega))
    · have e2 := row_cellsX B.q.r2
      have e3 := row_cellsX B.q.r3
      have g2 := row_thawX B.q.r2
      have g3 := row_thawX B.q.r3
      clear h1 h2 h3 h4 c5 c6 B hit q0 hlen hY hm ht cv
      have k2 : Wb.cell? ⟨w.heap.size, 0, none⟩ = some (.slice none 0 0) := e2 0
      have k3 : Wb.cell? ⟨w.heap.size + 1, 0, none⟩ = some (.int .i64 0) := e3 0
      have k4 : Wb.cell? ⟨w.heap.size + 1, 1, none⟩ = some (.int .i64 0) := e3 1
      have n1 : ¬ W.heap.size + 1 = w.heap.size := by omega
      have n2 : ¬ W.heap.size = w.heap.size := by omega
      clear e2 e3
      gi_wp2_with (simp only [Oper.semAt]; go_simp)
      have hS : Wb.drew.cell? ⟨W.heap.size + 1, 0, none⟩ = some (.int .i64 y.c) ∧ Wb.drew.cell? ⟨W.heap.size + 1, 1, none⟩ = some (.int .i64 y.f) := ⟨d0, d1⟩
      refine It.round_held (S := fun w' => w'.cell? ⟨W.heap.size + 1, 0, none⟩ = some (.int .i64 y.c) ∧ w'.cell? ⟨W.heap.size + 1, 1, none⟩ = some (.int .i64 y.f)) (by kernel_rfl) (by kernel_rfl) (by rintro ⟨a, w, hF⟩; exact hF) ?_
      (refine wpAnyH_take (i := 0) (v := ?_) rfl (by kernel_rfl) (by kernel_rfl) (by kernel_rfl) (fun _ _ _ h => h) (Or.inl ⟨by rfl, ?_⟩) hS ?_); rotate_left; (focus (intro w' hSw; obtain ⟨q1, q2⟩ := hSw; go_simp; (try with_reducible rfl))); (try simp only [Act.put, List.setIfInBounds_toArray, List.set_cons_zero, List.set_cons_succ])
      refine wpAnyH_ready (rs := [1]) (by kernel_rfl) (by simp) ?_
      refine AllReadyH.cons rfl (fun K hK => ?_) AllReadyH.nil
      go_simp
      have u1 : It.Upd (fun k => k = w.heap.size ∨ k = w.heap.size + 1) Wb (Wb.setCell ⟨w.heap.size, 0, none⟩ (.slice none 0 0)).drew := ((It.Upd.refl _ Wb).setCell (p := ⟨w.heap.size, 0, none⟩) (.inl (.inl rfl)) _).drew
      have a2 : (Wb.setCell ⟨w.heap.size, 0, none⟩ (.slice none 0 0)).drew.heap[w.heap.size]? = some (.cells #[.slice none 0 0] 22 (0, 0)) := heap_setX (c := [.slice none 0 0]) BB.out.q.r2 0 (.slice none 0 0)
      have a3 : (Wb.setCell ⟨w.heap.size, 0, none⟩ (.slice none 0 0)).drew.heap[w.heap.size + 1]? = some (.cells #[.int .i64 0, .int .i64 0] 25 (0, 0)) := (Below.heap_setCell _ _ _ _ (by show w.heap.size + 1 ≠ w.heap.size; omega)).trans BB.out.q.r3
      have a6 : (Wb.setCell ⟨w.heap.size, 0, none⟩ (.slice none 0 0)).drew.heap[W.heap.size + 1]? = some (.cells #[.int .i64 y.c, .int .i64 y.f] 25 (0, 0)) := (Below.heap_setCell _ _ _ _ (by show W.heap.size + 1 ≠ w.heap.size; omega)).trans BB.out.flt
      generalize (Wb.setCell ⟨w.heap.size, 0, none⟩ (.slice none 0 0)).drew = Wc at *
      refine hK.out _ _ ⟨row_cellsX a6 0, row_cellsX a6 1⟩ (fun hS2 => ?_)
      clear hK K hS
      have U1 := hid u1
      have A2 := hid a2
      have A3 := hid a3
      have A6 := hid a6
      have k3 : Wc.cell? ⟨w.heap.size + 1, 0, none⟩ = some (.int .i64 0) := row_cellsX a3 0
      have k4 : Wc.cell? ⟨w.heap.size + 1, 1, none⟩ = some (.int .i64 0) := row_cellsX a3 1
      have g4 := row_thawX a3
      clear u1 a2 a3 a6 g2 g3 k2
      refine wpAnyH_ready (rs := [2]) (by kernel_rfl) (by simp) ?_
      refine AllReadyH.cons rfl (fun K hK => ?_) AllReadyH.nil
      go_simp
      have u2 : It.Upd (fun k => k = w.heap.size ∨ k = w.heap.size + 1) Wc ((Wc.setCell ⟨w.heap.size + 1, 0, none⟩ (.int .i64 y.c)).setCell ⟨w.heap.size + 1, 1, none⟩ (.int .i64 y.f)) := ((It.Upd.refl _ Wc).setCell (p := ⟨w.heap.size + 1, 0, none⟩) (.inl (.inr rfl)) _).setCell (p := ⟨w.heap.size + 1, 1, none⟩) (.inl (.inr rfl)) _
      have b3 : ((Wc.setCell ⟨w.heap.size + 1, 0, none⟩ (.int .i64 y.c)).setCell ⟨w.heap.size + 1, 1, none⟩ (.int .i64 y.f)).heap[w.heap.size + 1]? = some (.cells #[.int .i64 y.c, .int .i64 y.f] 25 (0, 0)) := heap_setX (c := [.int .i64 y.c, .int .i64 0]) (heap_setX (c := [.int .i64 0, .int .i64 0]) A3.out 0 (.int .i64 y.c)) 1 (.int .i64 y.f)
      have b2 : ((Wc.setCell ⟨w.heap.size + 1, 0, none⟩ (.int .i64 y.c)).setCell ⟨w.heap.size + 1, 1, none⟩ (.int .i64 y.f)).heap[w.heap.size]? = some (.cells #[.slice none 0 0] 22 (0, 0)) := ((Below.heap_setCell _ _ _ _ (by show w.heap.size ≠ w.heap.size + 1; omega)).trans (Below.heap_setCell _ _ _ _ (by show w.heap.size ≠ w.heap.size + 1; omega))).trans A2.out
      have b6 : ((Wc.setCell ⟨w.heap.size + 1, 0, none⟩ (.int .i64 y.c)).setCell ⟨w.heap.size + 1, 1, none⟩ (.int .i64 y.f)).heap[W.heap.size + 1]? = some (.cells #[.int .i64 y.c, .int .i64 y.f] 25 (0, 0)) := ((Below.heap_setCell _ _ _ _ (by show W.heap.size + 1 ≠ w.heap.size + 1; omega)).trans (Below.heap_setCell _ _ _ _ (by show W.heap.size + 1 ≠ w.heap.size + 1; omega))).trans A6.out
      generalize (Wc.setCell ⟨w.heap.size + 1, 0, none⟩ (.int .i64 y.c)).setCell ⟨w.heap.size + 1, 1, none⟩ (.int .i64 y.f) = Wd at *
      refine hK.out _ _ ⟨row_cellsX b6 0, row_cellsX b6 1⟩ (fun hS3 => ?_)
      clear hK K
      refine wpAnyH_done (by kernel_rfl) ?_ _
      have u3 := U1.out.trans' u2
      have X : AllX w Ys .ret Wd := by
        refine ⟨rfl, ⟨u3.os.trans BB.out.q.bel.os, u3.tape.trans BB.out.q.bel.tape, u3.output.trans BB.out.q.bel.output, Nat.le_trans BB.out.q.bel.size u3.size, fun k hk => (u3.block k (by have := BB.out.q.sz; omega) (by omega)).trans (BB.out.q.bel.block k hk)⟩, Nat.le_trans BB.out.q.sz u3.size, b2, y, ?_, b3⟩
        exact find_at Ys i y (by simpa using hi) hy BB.out.q.ok hc
      have p1 : Wd.heap[w.heap.size + 4 + 1]? = Wb.heap[w.heap.size + 4 + 1]? := u3.block _ (by have := BB.out.big; have := BB.out.q.sz; have := (Array.getElem?_eq_some_iff.1 BB.out.tok).1; omega) (by omega)
      have p2 : Wd.heap[w.heap.size + 4]? = Wb.heap[w.heap.size + 4]? := u3.block _ (by have := BB.out.big; have := BB.out.q.sz; have := (Array.getElem?_eq_some_iff.1 BB.out.tok).1; omega) (by omega)
      have XX := hid X
      clear X
      gi_wp2
      exact ⟨⟨p1, p2⟩, XX.out⟩
  case done =>
    intro D W q hD
    rw [List.length_map] at q
    obtain ⟨v, h1, h2, h3, h4⟩ := q.row
    obtain ⟨o9, c9, rfl⟩ := slice_ofX h2
    have b4 : W.cell? ⟨w.heap.size + 1 + 1, 0, none⟩ = some (.slice o9 Ys.length c9) := cell_of_row _ _ 0 _ _ _ h1
    have k2 : W.cell? ⟨w.heap.size, 0, none⟩ = some (.slice none 0 0) := row_cellsX q.r2 0
    have k3 : W.cell? ⟨w.heap.size + 1, 0, none⟩ = some (.int .i64 0) := row_cellsX q.r3 0
    have k4 : W.cell? ⟨w.heap.size + 1, 1, none⟩ = some (.int .i64 0) := row_cellsX q.r3 1
    have g2 := row_thawX q.r2
    have g3 := row_thawX q.r3
    have QQ := hid q
    have H2 := hid h2
    have H3 := hid h3
    have HD := hid hD
    have hok : ∀ y ∈ Ys, y.c = 0 := by have := q.ok; rwa [List.take_of_length_le (Nat.le_refl _)] at this
    have OK := hid hok
    rw [z0]
    rw [z0] at HD
    clear q h1 h2 h3 h4 hit q0 hY hm ht cv hD hok hlen
    generalize hnn : Ys.length = nn at *
    go_wp2
    have u2 : It.Upd (fun k => k = w.heap.size ∨ k = w.heap.size + 1) W (((W.setCell ⟨w.heap.size, 0, none⟩ (.slice o9 nn c9)).setCell ⟨w.heap.size + 1, 0, none⟩ (.int .i64 0)).setCell ⟨w.heap.size + 1, 1, none⟩ (.int .i64 0)) := (((It.Upd.refl _ W).setCell (p := ⟨w.heap.size, 0, none⟩) (.inl (.inl rfl)) _).setCell (p := ⟨w.heap.size + 1, 0, none⟩) (.inl (.inr rfl)) _).setCell (p := ⟨w.heap.size + 1, 1, none⟩) (.inl (.inr rfl)) _
    have a3 : (W.setCell ⟨w.heap.size, 0, none⟩ (.slice o9 nn c9)).heap[w.heap.size + 1]? = some (.cells #[.int .i64 0, .int .i64 0] 25 (0, 0)) := (Below.heap_setCell _ _ _ _ (by show w.heap.size + 1 ≠ w.heap.size; omega)).trans QQ.out.r3
    have b3 : (((W.setCell ⟨w.heap.size, 0, none⟩ (.slice o9 nn c9)).setCell ⟨w.heap.size + 1, 0, none⟩ (.int .i64 0)).setCell ⟨w.heap.size + 1, 1, none⟩ (.int .i64 0)).heap[w.heap.size + 1]? = some (.cells #[.int .i64 0, .int .i64 0] 25 (0, 0)) := heap_setX (c := [.int .i64 0, .int .i64 0]) (heap_setX (c := [.int .i64 0, .int .i64 0]) a3 0 (.int .i64 0)) 1 (.int .i64 0)
    have b2 : (((W.setCell ⟨w.heap.size, 0, none⟩ (.slice o9 nn c9)).setCell ⟨w.heap.size + 1, 0, none⟩ (.int .i64 0)).setCell ⟨w.heap.size + 1, 1, none⟩ (.int .i64 0)).heap[w.heap.size]? = some (.cells #[.slice o9 nn c9] 22 (0, 0)) := ((Below.heap_setCell _ _ _ _ (by show w.heap.size ≠ w.heap.size + 1; omega)).trans (Below.heap_setCell _ _ _ _ (by show w.heap.size ≠ w.heap.size + 1; omega))).trans (heap_setX (c := [.slice none 0 0]) QQ.out.r2 0 (.slice o9 nn c9))
    generalize ((W.setCell ⟨w.heap.size, 0, none⟩ (.slice o9 nn c9)).setCell ⟨w.heap.size + 1, 0, none⟩ (.int .i64 0)).setCell ⟨w.heap.size + 1, 1, none⟩ (.int .i64 0) = Wd at *
    have hD2 : Wd.heap[w.heap.size + 4]? = some (.deferred (some [])) := (u2.block _ (Array.getElem?_eq_some_iff.1 HD.out).1 (by omega)).trans HD.out
    refine ⟨by simp, .inl ⟨_, _, rfl, run_takeDeferred hD2, ?_⟩⟩
    have u3 : It.Upd (fun k => k = w.heap.size ∨ k = w.heap.size + 1 ∨ k = w.heap.size + 4) W (Wd.putObj (w.heap.size + 4) (.deferred none)) := (u2.mono (fun k e => e.elim .inl (fun e => .inr (.inl e)))).trans' (It.upd_put (S := fun k => k = w.heap.size ∨ k = w.heap.size + 1 ∨ k = w.heap.size + 4) (.inr (.inr rfl)) _)
    refine ⟨_, all_ret rfl _ _ w.heap.size (w.heap.size + 1) _ _ _ (0, 0) (0, 0) _ rfl rfl ((World.putObj_heap_other (by omega)).trans b2) ((World.putObj_heap_other (by omega)).trans b3), ?_, .inr ⟨OK.out, _, rfl, ?_⟩⟩
    · exact ⟨u3.os.trans QQ.out.bel.os, u3.tape.trans QQ.out.bel.tape, u3.output.trans QQ.out.bel.output, Nat.le_trans QQ.out.bel.size u3.size, fun k hk => (u3.block k (by have := QQ.out.sz; omega) (by omega)).trans (QQ.out.bel.block k hk)⟩
    · have h2 := H2.out
      rw [List.take_of_length_le (by omega)] at h2
      rw [hnn]
      exact owns_onX h2 (fun k e => u3.block k (h2.lt k e).2 (by have := H3.out k e; omega))
  case stop =>
    intro c W q hD
    obtain rfl := q.code
    obtain ⟨y, h1, h2⟩ := q.bad
    rw [z0]
    rw [z0] at hD
    have QQ := hid q
    clear hit q0 hY hm ht cv hlen q
    go_wp2
    refine ⟨by simp, .inl ⟨_, _, rfl, run_takeDeferred hD, ?_⟩⟩
    have u3 : It.Upd (fun k => k = w.heap.size + 4) W (W.putObj (w.heap.size + 4) (.deferred none)) := It.upd_put (S := fun k => k = w.heap.size + 4) rfl _
    refine ⟨_, all_ret rfl _ _ w.heap.size (w.heap.size + 1) _ _ _ (0, 0) (0, 0) _ rfl rfl ((World.putObj_heap_other (by omega)).trans QQ.out.r2) ((World.putObj_heap_other (by omega)).trans h2), ?_, .inl ⟨y, h1, rfl⟩⟩
    exact ⟨u3.os.trans QQ.out.bel.os, u3.tape.trans QQ.out.bel.tape, u3.output.trans QQ.out.bel.output, Nat.le_trans QQ.out.bel.size u3.size, fun k hk => (u3.block k (by have := QQ.out.sz; omega) (by omega)).trans (QQ.out.bel.block k hk)⟩
theorem all_c (s : ByteArray) (hs : s.size ≤ 1000000) (w : World) (ht : Tabs w) (hm : MarksIn w) :
    Calls Tryd.prog 5 #[.string s] w fun e w' => Below w.heap.size w w' ∧ AllR (srcY s.data.toList) w.heap.size e w' := by
  refine all_core s (srcY s.data.toList) ?_ (fun sb => ?_) w ht hm
  · have := srcY_len s.data.toList
    rw [size_list] at this
    omega
  · rw [← vals_map]
    exact toks_iter s hs sb
end Go.Proofs.YtdoojooepkdlhaaDoor.W
/- Package lex: All, where there is no fault, and where there is one; awake. -/
namespace Go.Proofs.YtdoojooepkdlhaaDoor.W
open Go.ChangeShapes Go.WideShapes Go.RowKit Go.Shelf
set_option linter.unusedVariables false
/-- tokens in a row of one's own -/
def TokRow (W : World) (B g cap : Nat) (Ys : List Yd) : Prop := B ≤ g ∧ g < W.heap.size ∧ Ys.length ≤ cap ∧ ∀ k, k < 5 * Ys.length → W.cell? ⟨g, k, none⟩ = (rowsY Ys)[k]?
theorem TokRow.below {W W' : World} {B g cap : Nat} {Ys : List Yd} (h : TokRow W B g cap Ys) (hB : Below W.heap.size W W') : TokRow W' B g cap Ys :=
  ⟨h.1, Nat.lt_of_lt_of_le h.2.1 hB.size, h.2.2.1, fun k hk => (hB.cell (p := ⟨g, k, none⟩) h.2.1).trans (h.2.2.2 k hk)⟩
theorem all_good (s : ByteArray) (hs : s.size ≤ 1000000) (Ys : List Yd) (hY : srcY s.data.toList = Ys) (h0 : ∀ y ∈ Ys, y.c = 0) (hn : 0 < Ys.length) (w : World) (ht : Tabs w) (hm : MarksIn w) :
    Calls Tryd.prog 5 #[.string s] w fun e w' => Below w.heap.size w w' ∧ ∃ g cap, e = .returned (.tuple #[.slice (some ⟨g, 0, none⟩) Ys.length cap, .agg #[.int .i64 0, .int .i64 0]]) ∧ TokRow w' w.heap.size g cap Ys := by
  refine (all_c s hs w ht hm).mono ?_
  rintro e w' ⟨hB, h⟩
  rw [hY] at h
  rcases h with ⟨y, h1, _⟩ | ⟨_, v, he, hown⟩
  · have := List.find?_some h1
    have hm := List.mem_of_find?_eq_some h1
    rw [h0 y hm] at this
    cases this
  · refine ⟨hB, ?_⟩
    rcases hown.2 with ⟨_, e0⟩ | ⟨g, cap, cur, rfl, h2, h3, h4, h5, h6, h7⟩
    · omega
    · refine ⟨g, cap, he, h2, (Array.getElem?_eq_some_iff.1 h3).1, h4, fun k hk => ?_⟩
      rw [cell_of_row _ g k _ _ _ h3, ← h7, List.getElem?_take, if_pos (by omega), Array.getElem?_toList]
theorem all_bad (s : ByteArray) (hs : s.size ≤ 1000000) (y : Yd) (hY : (srcY s.data.toList).find? (fun y => y.c != 0) = some y) (w : World) (ht : Tabs w) (hm : MarksIn w) :
    Calls Tryd.prog 5 #[.string s] w fun e w' => Below w.heap.size w w' ∧ e = .returned (.tuple #[.slice none 0 0, .agg #[.int .i64 y.c, .int .i64 y.f]]) := by
  refine (all_c s hs w ht hm).mono ?_
  rintro e w' ⟨hB, h⟩
  rcases h with ⟨z, h1, h2⟩ | ⟨h0, _⟩
  · obtain rfl := Option.some.inj (hY.symm.trans h1)
    exact ⟨hB, h2⟩
  · have := List.find?_some hY
    rw [h0 y (List.mem_of_find?_eq_some hY)] at this
    cases this
def awakeY : List Yd := [⟨⟨2, ⟨#[108, 101, 116]⟩, 0, 0⟩, 0, 0, 0⟩, ⟨⟨1, ⟨#[120]⟩, 0, 0⟩, 4, 0, 0⟩, ⟨⟨3, ⟨#[61]⟩, 0, 0⟩, 5, 0, 0⟩, ⟨⟨4, ⟨#[]⟩, 1, 0⟩, 6, 0, 0⟩, ⟨⟨3, ⟨#[46, 46]⟩, 0, 0⟩, 7, 0, 0⟩, ⟨⟨4, ⟨#[]⟩, 2, 0⟩, 9, 0, 0⟩, ⟨endTk, 14, 0, 0⟩]
theorem awake_src : srcY [108, 101, 116, 32, 120, 61, 49, 46, 46, 50, 32, 35, 32, 121] = awakeY := by kernel_rfl
set_option maxRecDepth 100000 in
set_option maxHeartbeats 1000000 in
theorem awake11_c (w : World) (ht : Tabs w) (hm : MarksIn w) : Calls Tryd.prog 8 #[] w fun e w' => e = .returned (.bool true) ∧ Below w.heap.size w w' := by
  have ca := all_good ⟨#[108, 101, 116, 32, 120, 61, 49, 46, 46, 50, 32, 35, 32, 121]⟩ (by decide) awakeY awake_src (by decide) (by decide) w ht hm
  clear ht hm
  have e7 : awakeY.length = 7 := rfl
  rw [e7] at ca
  clear e7
  go_enter Tryd.func8, Tryd.ntmps8
  go_wp2_with (go_at_call 5; (with_reducible refine ca.mono ?_); rintro e w2 ⟨hB2, g, cap, rfl, hr⟩; (obtain ⟨r1, r2, r3, r4⟩ := hr.below ((Below.refl _ w2).alloc (Nat.le_refl _) (.cells #[.int .i64 0, .int .i64 0] 25))); (have hb := hid hB2); (have rr := hid (And.intro r1 (And.intro r2 r3))); (have c5 : (w2.alloc (.cells #[.int .i64 0, .int .i64 0] 25)).cell? ⟨g, 5, none⟩ = some (.int .i64 1) := r4 5 (by decide)); (have c6 : (w2.alloc (.cells #[.int .i64 0, .int .i64 0] 25)).cell? ⟨g, 6, none⟩ = some (.int .i64 4) := r4 6 (by decide)); (have c7 : (w2.alloc (.cells #[.int .i64 0, .int .i64 0] 25)).cell? ⟨g, 7, none⟩ = some (.string ⟨#[120]⟩) := r4 7 (by decide)); (have c8 : (w2.alloc (.cells #[.int .i64 0, .int .i64 0] 25)).cell? ⟨g, 8, none⟩ = some (.int .i64 0) := r4 8 (by decide)); (have c9 : (w2.alloc (.cells #[.int .i64 0, .int .i64 0] 25)).cell? ⟨g, 9, none⟩ = some (.int .u64 0) := r4 9 (by decide)); (have d0 : (w2.alloc (.cells #[.int .i64 0, .int .i64 0] 25)).cell? ⟨g, 20, none⟩ = some (.int .i64 3) := r4 20 (by decide)); (have d1 : (w2.alloc (.cells #[.int .i64 0, .int .i64 0] 25)).cell? ⟨g, 21, none⟩ = some (.int .i64 7) := r4 21 (by decide)); (have d2 : (w2.alloc (.cells #[.int .i64 0, .int .i64 0] 25)).cell? ⟨g, 22, none⟩ = some (.string ⟨#[46, 46]⟩) := r4 22 (by decide)); (have d3 : (w2.alloc (.cells #[.int .i64 0, .int .i64 0] 25)).cell? ⟨g, 23, none⟩ = some (.int .i64 0) := r4 23 (by decide)); (have d4 : (w2.alloc (.cells #[.int .i64 0, .int .i64 0] 25)).cell? ⟨g, 24, none⟩ = some (.int .u64 0) := r4 24 (by decide)); (have f0 : (w2.alloc (.cells #[.int .i64 0, .int .i64 0] 25)).cell? ⟨g, 30, none⟩ = some (.int .i64 7) := r4 30 (by decide)); (have f1 : (w2.alloc (.cells #[.int .i64 0, .int .i64 0] 25)).cell? ⟨g, 31, none⟩ = some (.int .i64 14) := r4 31 (by decide)); clear r1 r2 r3 r4 hB2 ca)
  go_ret
  exact ⟨by simp, (hb.out.alloc hb.out.size _)⟩
end Go.Proofs.YtdoojooepkdlhaaDoor.W
/- Along the statements of package lex. -/
namespace Go.Proofs.YtdoojooepkdlhaaDoor.W
open Go.ChangeShapes Go.WideShapes Go.RowKit Go.Shelf
set_option linter.unusedVariables false
/-- a world with what lies below it -/
structure BW (w : World) where
  w' : World
  h : Below w.heap.size w w'
theorem wp_region_quiet_below {id : Nat} {Q : Exit → Act → World → Prop} {a : Act} {w : World} {l : List Oper} (hm : Tryd.prog.follows .mixedOrders = true) (hB : Region.lexB .any l.toArray = true)
    (h : wpQuiet Tryd.prog l.toArray (fun w' => ∃ p : BW w, w' = p.w') (fun a' => ∀ w', (∃ p : BW w, w' = p.w') → Q .normal a' w') l a) : (Code.region id l.toArray true).wp Tryd.prog Q a w :=
  wp_region_quiet (C := fun w' => ∃ p : BW w, w' = p.w') hm hB ⟨⟨w.drew, (Below.refl _ w).drew⟩, rfl⟩ (by simpa using h)
theorem BW.calls {P : Program} {f : FuncId} {args : Array Value} {w : World} {p : BW w} {v : Value} (h : Calls P f args p.w' fun e w' => e = .returned v ∧ Below p.w'.heap.size p.w' w') : Calls P f args p.w' fun e w'' => e = .returned v ∧ ∃ p' : BW w, w'' = p'.w' :=
  h.mono fun _ w'' ⟨he, hB⟩ => ⟨he, ⟨w'', p.h.trans (hB.mono p.h.size)⟩, rfl⟩
theorem BW.cell {w : World} {a : Addr} {v : Value} (h : w.cell? a = some v) (p : BW w) : p.w'.cell? a = some v := It.below_cell p.h h
/-- along a statement: all is kept that was there, the tables and the marks lie where they lie -/
structure Sx (w W : World) : Prop where
  bel : Below w.heap.size w W
  tabs : Tabs W
  marks : MarksIn W
theorem Sx.go {w W W' : World} (h : Sx w W) (hb : Below W.heap.size W W') : Sx w W' := ⟨h.bel.trans (hb.mono h.bel.size), h.tabs.below hb, h.marks.below hb⟩
theorem Sx.alloc {w W : World} (h : Sx w W) (o : Obj) : Sx w (W.alloc o) := h.go ((Below.refl _ W).alloc (Nat.le_refl _) o)
theorem Sx.refl {w : World} (ht : Tabs w) (hm : MarksIn w) : Sx w w := ⟨Below.refl _ w, ht, hm⟩
structure Blk (w : World) (b : Nat) (c : Array Value) : Prop where
  lt : b < w.heap.size
  cells : ∀ i, w.cell? ⟨b, i, none⟩ = c[i]?
theorem Blk.go {w w2 : World} {b : Nat} {c : Array Value} (h : Blk w b c) (hb : Below w.heap.size w w2) : Blk w2 b c :=
  ⟨Nat.lt_of_lt_of_le h.lt hb.size, fun i => by rw [hb.cell h.lt]; exact h.cells i⟩
theorem Blk.alloc {w : World} {b : Nat} {c : Array Value} (h : Blk w b c) (o : Obj) : Blk (w.alloc o) b c := h.go ((Below.refl _ _).alloc (Nat.le_refl _) o)
theorem Blk.new (w : World) (c : Array Value) (t : TypeId) : Blk (w.alloc (.cells c t)) w.heap.size c := ⟨by simp, fun _ => World.cell?_alloc_new w _ _ _⟩
theorem str_len (l : List UInt8) : (⟨l.toArray⟩ : ByteArray).size = l.length := by rw [← size_list]
end Go.Proofs.YtdoojooepkdlhaaDoor.W
/- LexTwo: the walk where a text has a fault. -/
namespace Go.Proofs.YtdoojooepkdlhaaDoor.W
open Go.ChangeShapes Go.WideShapes Go.RowKit Go.Shelf
set_option linter.unusedVariables false
/-- whatever All answers -/
theorem all_any (s : ByteArray) (hs : s.size ≤ 1000000) (w : World) (ht : Tabs w) (hm : MarksIn w) :
    Calls Tryd.prog 5 #[.string s] w fun e w' => Below w.heap.size w w' ∧ ∃ o n cap c f, e = .returned (.tuple #[.slice o n cap, .agg #[.int .i64 c, .int .i64 f]]) := by
  refine (all_c s hs w ht hm).mono ?_
  rintro e w' ⟨hB, h⟩
  refine ⟨hB, ?_⟩
  rcases h with ⟨y, h1, h2⟩ | ⟨h0, v, he, hown⟩
  · exact ⟨none, 0, 0, _, _, h2⟩
  · obtain ⟨o, cap, rfl⟩ := slice_ofX hown
    exact ⟨o, _, cap, 0, 0, he⟩
end Go.Proofs.YtdoojooepkdlhaaDoor.W
/- LexTwo: the walk where both texts are well. -/
namespace Go.Proofs.YtdoojooepkdlhaaDoor.W
open Go.ChangeShapes Go.WideShapes Go.RowKit Go.Shelf
set_option linter.unusedVariables false
theorem rows_at (L : List Yd) (k j : Nat) (hk : k < L.length) (hj : j < 5) : (rowsY L)[k * 5 + j]? = (cellsA L[k])[j]? := by
  induction L generalizing k with
  | nil => simp at hk
  | cons y L ih =>
    unfold rowsY at ih ⊢
    rw [List.flatMap_cons]
    cases k with
    | zero =>
      rw [List.getElem?_append_left (by simp [cellsA]; omega)]
      simp
    | succ k =>
      have h5 : (cellsA y).toList.length = 5 := rfl
      rw [List.getElem?_append_right (by rw [h5]; omega), h5]
      have := ih k (by simpa using hk)
      have e : (k + 1) * 5 + j - 5 = k * 5 + j := by omega
      rw [e, this]
      rfl
theorem TokRow.at {W : World} {B g cap : Nat} {L : List Yd} (h : TokRow W B g cap L) (k : Nat) (hk : k < L.length) : W.cell? ⟨g, k * 5, none⟩ = some (.int .i64 L[k].t.kind) ∧ W.cell? ⟨g, k * 5 + 1, none⟩ = some (.int .i64 L[k].a) ∧ W.cell? ⟨g, k * 5 + 2, none⟩ = some (.string L[k].t.text) ∧ W.cell? ⟨g, k * 5 + 3, none⟩ = some (.int .i64 L[k].t.int) ∧ W.cell? ⟨g, k * 5 + 4, none⟩ = some (.int .u64 L[k].t.bits) := by
  refine ⟨?_, ?_, ?_, ?_, ?_⟩
  · have := h.2.2.2 (k * 5) (by omega); rw [this]; have := rows_at L k 0 hk (by omega); exact this
  · have := h.2.2.2 (k * 5 + 1) (by omega); rw [this]; exact rows_at L k 1 hk (by omega)
  · have := h.2.2.2 (k * 5 + 2) (by omega); rw [this]; exact rows_at L k 2 hk (by omega)
  · have := h.2.2.2 (k * 5 + 3) (by omega); rw [this]; exact rows_at L k 3 hk (by omega)
  · have := h.2.2.2 (k * 5 + 4) (by omega); rw [this]; exact rows_at L k 4 hk (by omega)
theorem lt_ar (t n1 n2 n3 : Nat) (h1 : n1 = t + 1) (h3 : n3 = t + n2) (hl : n1 ≤ 6000) (hl2 : n2 ≤ 6000) : IntKind.i64.wrap ((n1 : Int) + (n2 : Int)) = (n1 : Int) + (n2 : Int) ∧ IntKind.i64.wrap ((n1 : Int) + (n2 : Int) - 1) = (n3 : Int) ∧ wrap64 ((n1 : Int) + (n2 : Int)) = (n1 : Int) + (n2 : Int) ∧ wrap64 ((n1 : Int) + (n2 : Int) - 1) = (n3 : Int) := by
  refine ⟨?_, ?_, ?_, ?_⟩
  · rw [IntKind.wrap_i64]; omega
  · rw [IntKind.wrap_i64]; omega
  · unfold wrap64; omega
  · unfold wrap64; omega
theorem lt_ar2 (t n1 j m s : Nat) (a : Int) (h1 : n1 = t + 1) (hm : t + j = m) (hs : s ≤ 5000) (hl : n1 ≤ 6000) (hj : j ≤ 6000) (a0 : 0 ≤ a) (a1 : a ≤ 6000) : IntKind.i64.wrap ((j : Int) + 1) = ((j + 1 : Nat) : Int) ∧ wrap64 ((j : Int) + 1) = ((j + 1 : Nat) : Int) ∧ IntKind.i64.wrap ((n1 : Int) - 1) = (t : Int) ∧ wrap64 ((n1 : Int) - 1) = (t : Int) ∧ IntKind.i64.wrap ((t : Int) + (j : Int)) = (m : Int) ∧ wrap64 ((t : Int) + (j : Int)) = (m : Int) ∧ IntKind.i64.wrap ((s : Int) + 1) = (s : Int) + 1 ∧ wrap64 ((s : Int) + 1) = (s : Int) + 1 ∧ IntKind.i64.wrap (a + ((s : Int) + 1)) = a + ((s : Int) + 1) ∧ wrap64 (a + ((s : Int) + 1)) = a + ((s : Int) + 1) := by
  refine ⟨?_, ?_, ?_, ?_, ?_, ?_, ?_, ?_, ?_, ?_⟩ <;> first | (rw [IntKind.wrap_i64]; omega) | (unfold wrap64; omega)
end Go.Proofs.YtdoojooepkdlhaaDoor.W
/- Rows of tokens that are written over. -/
namespace Go.Proofs.YtdoojooepkdlhaaDoor.W
open Go.ChangeShapes Go.WideShapes Go.RowKit Go.Shelf
set_option linter.unusedVariables false
def yK (K : Int) : Yd := ⟨⟨K, ⟨#[]⟩, 0, 0⟩, 0, 0, 0⟩
/-- the first k tokens are written over -/
def over (K : Int) (k : Nat) (Z : List Yd) : List Yd := List.replicate k (yK K) ++ Z.drop k
theorem over_zero (K : Int) (Z : List Yd) : over K 0 Z = Z := by simp [over]
theorem over_all (K : Int) (Z : List Yd) : over K Z.length Z = List.replicate Z.length (yK K) := by simp [over]
theorem over_len (K : Int) (k : Nat) (Z : List Yd) (h : k ≤ Z.length) : (over K k Z).length = Z.length := by
  simp [over]; omega
theorem over_at (K : Int) (k : Nat) (Z : List Yd) (h : k < Z.length) (h2 : k < (over K k Z).length) : (over K k Z)[k] = Z[k] := by
  unfold over at h2 ⊢
  rw [List.getElem_append_right (by simp)]
  simp
theorem over_set (K : Int) (k : Nat) (Z : List Yd) (h : k < Z.length) : (over K k Z).set k (yK K) = over K (k + 1) Z := by
  unfold over
  rw [List.drop_eq_getElem_cons h, List.set_append_right _ _ (by simp), List.length_replicate, Nat.sub_self, List.set_cons_zero, List.replicate_succ', List.append_assoc]
  rfl
theorem rows_set (L : List Yd) (k : Nat) (y : Yd) : rowsY (L.set k y) = (((((rowsY L).set (k * 5) (.int .i64 y.t.kind)).set (k * 5 + 1) (.int .i64 y.a)).set (k * 5 + 2) (.string y.t.text)).set (k * 5 + 3) (.int .i64 y.t.int)).set (k * 5 + 4) (.int .u64 y.t.bits) := by
  induction L generalizing k with
  | nil => simp [rowsY]
  | cons z L ih =>
    cases k with
    | zero => simp [rowsY, cellsA]
    | succ k =>
      have e0 : (k + 1) * 5 = k * 5 + 5 := by omega
      have := ih k
      unfold rowsY at this ⊢
      rw [List.set_cons_succ, List.flatMap_cons, List.flatMap_cons, this, e0]
      simp [cellsA]
theorem rows_rep (K : Int) (m : Nat) : rowsY (List.replicate (m + 1) (yK K)) = rowsY (List.replicate m (yK K)) ++ [.int .i64 K, .int .i64 0, .string ⟨#[]⟩, .int .i64 0, .int .u64 0] := by
  unfold rowsY
  rw [List.replicate_succ', List.flatMap_append]
  rfl
/-- a row of one's own of tokens -/
def RowT (W : World) (B : Nat) (o : Option Addr) (n cap : Nat) (L : List Yd) : Prop := W.ownsRow B 30 5 (.slice o n cap) n (rowsY L)
theorem RowT.at {W : World} {B g n cap : Nat} {L : List Yd} (h : RowT W B (some ⟨g, 0, none⟩) n cap L) (hn : L.length = n) (k : Nat) (hk : k < L.length) : W.cell? ⟨g, k * 5, none⟩ = some (.int .i64 L[k].t.kind) ∧ W.cell? ⟨g, k * 5 + 1, none⟩ = some (.int .i64 L[k].a) ∧ W.cell? ⟨g, k * 5 + 2, none⟩ = some (.string L[k].t.text) ∧ W.cell? ⟨g, k * 5 + 3, none⟩ = some (.int .i64 L[k].t.int) ∧ W.cell? ⟨g, k * 5 + 4, none⟩ = some (.int .u64 L[k].t.bits) := by
  have key : ∀ j, j < 5 → W.cell? ⟨g, k * 5 + j, none⟩ = (cellsA L[k])[j]? := fun j hj => by
    rw [← rows_at L k j hk hj]
    exact h.cellAt (k * 5 + j) (by omega)
  exact ⟨key 0 (by omega), key 1 (by omega), key 2 (by omega), key 3 (by omega), key 4 (by omega)⟩
theorem RowT.form {W : World} {B n cap : Nat} {o : Option Addr} {L : List Yd} (h : RowT W B o n cap L) (hn : 0 < n) : ∃ g, o = some ⟨g, 0, none⟩ := by
  rcases h.2 with ⟨_, e0⟩ | ⟨g, cap', cur, e, _⟩
  · omega
  · simp only [Value.slice.injEq] at e
    exact ⟨g, e.1⟩
theorem RowT.on {W W' : World} {B n cap : Nat} {o : Option Addr} {L : List Yd} (h : RowT W B o n cap L) (hk : ∀ k, (Value.slice o n cap).ownBlock = some k → W'.heap[k]? = W.heap[k]?) : RowT W' B o n cap L := owns_onX h hk
theorem RowT.below {W W' : World} {B n cap : Nat} {o : Option Addr} {L : List Yd} (h : RowT W B o n cap L) (hb : Below W.heap.size W W') : RowT W' B o n cap L := h.on (fun k e => hb.block k (h.lt k e).2)
/-- one token written over -/
theorem RowT.write {W : World} {B g n cap : Nat} {L : List Yd} (h : RowT W B (some ⟨g, 0, none⟩) n cap L) (k : Nat) (y : Yd) :
    RowT (((((W.setCell ⟨g, k * 5, none⟩ (.int .i64 y.t.kind)).setCell ⟨g, k * 5 + 1, none⟩ (.int .i64 y.a)).setCell ⟨g, k * 5 + 2, none⟩ (.string y.t.text)).setCell ⟨g, k * 5 + 3, none⟩ (.int .i64 y.t.int)).setCell ⟨g, k * 5 + 4, none⟩ (.int .u64 y.t.bits)) B (some ⟨g, 0, none⟩) n cap (L.set k y) := by
  unfold RowT
  rw [rows_set]
  exact (((((h.stored (k * 5) _).1.stored (k * 5 + 1) _).1.stored (k * 5 + 2) _).1.stored (k * 5 + 3) _).1.stored (k * 5 + 4) _).1
end Go.Proofs.YtdoojooepkdlhaaDoor.W
/- LexReads: the walk, over what it calls. -/
namespace Go.Proofs.YtdoojooepkdlhaaDoor.W
open Go.ChangeShapes Go.WideShapes Go.RowKit Go.Shelf
set_option linter.unusedVariables false
set_option linter.unusedSimpArgs false
theorem far5 {W : World} {j g : Nat} (h : j ≠ g) (o0 o1 o2 o3 o4 : Nat) (v0 v1 v2 v3 v4 : Value) : (((((W.setCell ⟨g, o0, none⟩ v0).setCell ⟨g, o1, none⟩ v1).setCell ⟨g, o2, none⟩ v2).setCell ⟨g, o3, none⟩ v3).setCell ⟨g, o4, none⟩ v4).heap[j]? = W.heap[j]? :=
  (Below.heap_setCell _ _ _ _ h).trans ((Below.heap_setCell _ _ _ _ h).trans ((Below.heap_setCell _ _ _ _ h).trans ((Below.heap_setCell _ _ _ _ h).trans (Below.heap_setCell _ _ _ _ h))))
theorem below5 {w W : World} {g : Nat} (h : Below w.heap.size w W) (hg : w.heap.size ≤ g) (o0 o1 o2 o3 o4 : Nat) (v0 v1 v2 v3 v4 : Value) : Below w.heap.size w (((((W.setCell ⟨g, o0, none⟩ v0).setCell ⟨g, o1, none⟩ v1).setCell ⟨g, o2, none⟩ v2).setCell ⟨g, o3, none⟩ v3).setCell ⟨g, o4, none⟩ v4) :=
  ((((h.setCell (p := ⟨g, o0, none⟩) hg _).setCell (p := ⟨g, o1, none⟩) hg _).setCell (p := ⟨g, o2, none⟩) hg _).setCell (p := ⟨g, o3, none⟩) hg _).setCell (p := ⟨g, o4, none⟩) hg _
/-- three rows: what is asked, and two that are written over -/
structure Three (w W : World) (P1 P2 P3 : Nat) (o1 o2 o3 : Option Addr) (m k1 k2 k3 : Nat) (Z A B : List Yd) : Prop where
  bel : Below w.heap.size w W
  p1 : w.heap.size ≤ P1
  p2 : P1 ≤ P2
  p3 : P2 ≤ P3
  p4 : P3 ≤ W.heap.size
  r1 : RowT W P1 o1 m k1 Z
  r2 : RowT W P2 o2 m k2 A
  r3 : RowT W P3 o3 m k3 B
  u1 : ∀ j, (Value.slice o1 m k1).ownBlock = some j → j < P2
  u2 : ∀ j, (Value.slice o2 m k2).ownBlock = some j → j < P3
section
variable {w W : World} {P1 P2 P3 : Nat} {o1 o2 o3 : Option Addr} {m k1 k2 k3 : Nat} {Z A B : List Yd}
theorem Three.go {W' : World} (h : Three w W P1 P2 P3 o1 o2 o3 m k1 k2 k3 Z A B) (hb : Below W.heap.size W W') : Three w W' P1 P2 P3 o1 o2 o3 m k1 k2 k3 Z A B :=
  ⟨h.bel.trans (hb.mono h.bel.size), h.p1, h.p2, h.p3, Nat.le_trans h.p4 hb.size, h.r1.below hb, h.r2.below hb, h.r3.below hb, h.u1, h.u2⟩
/-- both are written over at one place -/
theorem Three.write {g1 g2 g3 : Nat} (h : Three w W P1 P2 P3 (some ⟨g1, 0, none⟩) (some ⟨g2, 0, none⟩) (some ⟨g3, 0, none⟩) m k1 k2 k3 Z A B) (k : Nat) (a b : Yd) :
    Three w ((((((((((W.setCell ⟨g2, k * 5, none⟩ (.int .i64 a.t.kind)).setCell ⟨g2, k * 5 + 1, none⟩ (.int .i64 a.a)).setCell ⟨g2, k * 5 + 2, none⟩ (.string a.t.text)).setCell ⟨g2, k * 5 + 3, none⟩ (.int .i64 a.t.int)).setCell ⟨g2, k * 5 + 4, none⟩ (.int .u64 a.t.bits)).setCell ⟨g3, k * 5, none⟩ (.int .i64 b.t.kind)).setCell ⟨g3, k * 5 + 1, none⟩ (.int .i64 b.a)).setCell ⟨g3, k * 5 + 2, none⟩ (.string b.t.text)).setCell ⟨g3, k * 5 + 3, none⟩ (.int .i64 b.t.int)).setCell ⟨g3, k * 5 + 4, none⟩ (.int .u64 b.t.bits)) P1 P2 P3 (some ⟨g1, 0, none⟩) (some ⟨g2, 0, none⟩) (some ⟨g3, 0, none⟩) m k1 k2 k3 Z (A.set k a) (B.set k b) := by
  have l2 := h.r2.lt g2 rfl
  have l3 := h.r3.lt g3 rfl
  have l1 := h.u1 g1 rfl
  have l4 := h.u2 g2 rfl
  have q1 := h.p1
  have q2 := h.p2
  have q3 := h.p3
  have q4 := h.p4
  have b1 := below5 h.bel (g := g2) (by omega) (k * 5) (k * 5 + 1) (k * 5 + 2) (k * 5 + 3) (k * 5 + 4) (.int .i64 a.t.kind) (.int .i64 a.a) (.string a.t.text) (.int .i64 a.t.int) (.int .u64 a.t.bits)
  have s2 := h.r2.write k a
  have s1 : RowT _ P1 (some ⟨g1, 0, none⟩) m k1 Z := h.r1.on (fun j e => far5 (W := W) (j := j) (g := g2) (by have := h.u1 j e; omega) (k * 5) (k * 5 + 1) (k * 5 + 2) (k * 5 + 3) (k * 5 + 4) (.int .i64 a.t.kind) (.int .i64 a.a) (.string a.t.text) (.int .i64 a.t.int) (.int .u64 a.t.bits))
  have s3 : RowT _ P3 (some ⟨g3, 0, none⟩) m k3 B := h.r3.on (fun j e => far5 (W := W) (j := j) (g := g2) (by have := (h.r3.lt j e).1; omega) (k * 5) (k * 5 + 1) (k * 5 + 2) (k * 5 + 3) (k * 5 + 4) (.int .i64 a.t.kind) (.int .i64 a.a) (.string a.t.text) (.int .i64 a.t.int) (.int .u64 a.t.bits))
  have z5 : W.heap.size ≤ (((((W.setCell ⟨g2, k * 5, none⟩ (.int .i64 a.t.kind)).setCell ⟨g2, k * 5 + 1, none⟩ (.int .i64 a.a)).setCell ⟨g2, k * 5 + 2, none⟩ (.string a.t.text)).setCell ⟨g2, k * 5 + 3, none⟩ (.int .i64 a.t.int)).setCell ⟨g2, k * 5 + 4, none⟩ (.int .u64 a.t.bits)).heap.size := by simp
  generalize ((((W.setCell ⟨g2, k * 5, none⟩ (.int .i64 a.t.kind)).setCell ⟨g2, k * 5 + 1, none⟩ (.int .i64 a.a)).setCell ⟨g2, k * 5 + 2, none⟩ (.string a.t.text)).setCell ⟨g2, k * 5 + 3, none⟩ (.int .i64 a.t.int)).setCell ⟨g2, k * 5 + 4, none⟩ (.int .u64 a.t.bits) = W5 at *
  refine ⟨below5 b1 (g := g3) (by omega) _ _ _ _ _ _ _ _ _ _, q1, q2, q3, ?_, s1.on (fun j e => far5 (by have := h.u1 j e; omega) _ _ _ _ _ _ _ _ _ _), s2.on (fun j e => far5 (by have := h.u2 j e; omega) _ _ _ _ _ _ _ _ _ _), s3.write k b, h.u1, h.u2⟩
  simp only [World.size_setCell]
  omega
end
/-- behind the appends -/
structure Two (w W : World) (P2 P3 : Nat) (o2 o3 : Option Addr) (m k2 k3 : Nat) (A B : List Yd) : Prop where
  bel : Below w.heap.size w W
  r2 : RowT W P2 o2 m k2 A
  r3 : RowT W P3 o3 m k3 B
theorem Two.go {w W W' : World} {P2 P3 : Nat} {o2 o3 : Option Addr} {m k2 k3 : Nat} {A B : List Yd} (h : Two w W P2 P3 o2 o3 m k2 k3 A B) (hb : Below W.heap.size W W') : Two w W' P2 P3 o2 o3 m k2 k3 A B :=
  ⟨h.bel.trans (hb.mono h.bel.size), h.r2.below hb, h.r3.below hb⟩
theorem lr_ar (k : Nat) (h : k ≤ 100000) : IntKind.i64.wrap ((k : Int) + 1) = ((k + 1 : Nat) : Int) ∧ wrap64 ((k : Int) + 1) = ((k + 1 : Nat) : Int) := by
  refine ⟨?_, ?_⟩
  · rw [IntKind.wrap_i64]; omega
  · unfold wrap64; omega
theorem fn_nil (kf : Nat) (cs : Array Value) (w : World) : (binOp .eql 32 (.func (.func kf) #[] cs) .nilFunc).run Tryd.prog w = .ok (.bool false) w := by kernel_rfl
theorem rep_at (K : Int) (m j : Nat) (h : j < (List.replicate m (yK K)).length) : (List.replicate m (yK K))[j] = yK K := by simp
set_option maxRecDepth 100000 in
set_option maxHeartbeats 4000000 in
theorem lexReads_core (s : ByteArray) (hs : s.size ≤ 5000) (stop : Int) (Z : List Yd) (m : Nat) (hZ : Z.length = m) (hm5 : m ≤ 5001) (c f : Int) (w : World) (ht : Tabs w) (hm : MarksIn w)
    (c1 : ∀ w, Calls Tryd.prog 4 #[.string s] w fun e w' => Below w.heap.size w w' ∧ ∃ o cap, e = .returned (.tuple #[.slice o m cap, .agg #[.int .i64 c, .int .i64 f]]) ∧ RowT w' w.heap.size o m cap Z)
    (c2 : ∀ w, Tabs w → MarksIn w → Calls Tryd.prog 5 #[.string s] w fun e w' => Below w.heap.size w w' ∧ ∃ o cap, e = .returned (.tuple #[.slice o m cap, .agg #[.int .i64 c, .int .i64 f]]) ∧ RowT w' w.heap.size o m cap Z)
    (cg : ∀ stop w, Tabs w → MarksIn w → Calls Tryd.prog 7 #[.string s, .int .i64 stop] w fun e w' => e = .returned (.bool true) ∧ Below w.heap.size w w') :
    Calls Tryd.prog 3 #[.string s, .int .i64 stop] w fun e w' => e = .returned (.bool true) ∧ Below w.heap.size w w' := by
  have c' : ¬ (s.size : Int) > 5000 := by omega
  have hS := Sx.refl ht hm
  have HTM := hid (And.intro ht hm)
  have HZ := hid (And.intro hZ hm5)
  have CG := hid cg
  obtain ⟨i0, hi, hz0, hz1, hz2⟩ := info_parts infoTk
  clear ht hm hs hZ hm5 cg
  go_enter Tryd.func3, Tryd.ntmps3
  go_upto_region 4 with (go_at_call 4; (with_reducible refine (c1 _).mono ?_); rintro e wn ⟨hb, o1, k1, rfl, r1⟩; (replace hS := hS.go hb); clear hb)
  have f1 := Blk.new wn #[Value.int .i64 c, Value.int .i64 f] 25
  replace hS := hS.alloc (Obj.cells #[Value.int .i64 c, Value.int .i64 f] 25)
  replace r1 := r1.below ((Below.refl _ wn).alloc (Nat.le_refl _) (Obj.cells #[Value.int .i64 c, Value.int .i64 f] 25))
  generalize World.alloc wn _ = W1 at *
  generalize wn.heap.size = b1 at *
  have z1 := hS.bel.size
  have u1 : ∀ j, (Value.slice o1 m k1).ownBlock = some j → j < W1.heap.size := fun j e => (r1.lt j e).2
  go_upto_region 5 with (go_at_call 5; (with_reducible refine (c2 _ hS.tabs hS.marks).mono ?_); rintro e wn ⟨hb, o2, k2, rfl, r2⟩; (replace hS := hS.go hb); (replace f1 := f1.go hb); (replace r1 := r1.below hb); (have z2 := hb.size); clear hb)
  have f2 := Blk.new wn #[Value.int .i64 c, Value.int .i64 f] 25
  replace hS := hS.alloc (Obj.cells #[Value.int .i64 c, Value.int .i64 f] 25)
  replace f1 := f1.alloc (Obj.cells #[Value.int .i64 c, Value.int .i64 f] 25)
  replace r1 := r1.below ((Below.refl _ wn).alloc (Nat.le_refl _) (Obj.cells #[Value.int .i64 c, Value.int .i64 f] 25))
  replace r2 := r2.below ((Below.refl _ wn).alloc (Nat.le_refl _) (Obj.cells #[Value.int .i64 c, Value.int .i64 f] 25))
  replace z2 : W1.heap.size ≤ (World.alloc wn (Obj.cells #[Value.int .i64 c, Value.int .i64 f] 25)).heap.size := by rw [World.size_alloc]; omega
  generalize World.alloc wn _ = W2 at *
  generalize wn.heap.size = b2 at *
  have u2 : ∀ j, (Value.slice o2 m k2).ownBlock = some j → j < W2.heap.size := fun j e => (r2.lt j e).2
  go_upto_region 6 with (go_at_call 5; (with_reducible refine (c2 _ hS.tabs hS.marks).mono ?_); rintro e wn ⟨hb, o3, k3, rfl, r3⟩; (replace hS := hS.go hb); (replace f1 := f1.go hb); (replace f2 := f2.go hb); (replace r1 := r1.below hb); (replace r2 := r2.below hb); (have z3 := hb.size); clear hb)
  have f3 := Blk.new wn #[Value.int .i64 c, Value.int .i64 f] 25
  replace hS := hS.alloc (Obj.cells #[Value.int .i64 c, Value.int .i64 f] 25)
  replace f1 := f1.alloc (Obj.cells #[Value.int .i64 c, Value.int .i64 f] 25)
  replace f2 := f2.alloc (Obj.cells #[Value.int .i64 c, Value.int .i64 f] 25)
  replace r1 := r1.below ((Below.refl _ wn).alloc (Nat.le_refl _) (Obj.cells #[Value.int .i64 c, Value.int .i64 f] 25))
  replace r2 := r2.below ((Below.refl _ wn).alloc (Nat.le_refl _) (Obj.cells #[Value.int .i64 c, Value.int .i64 f] 25))
  replace r3 := r3.below ((Below.refl _ wn).alloc (Nat.le_refl _) (Obj.cells #[Value.int .i64 c, Value.int .i64 f] 25))
  replace z3 : W2.heap.size ≤ (World.alloc wn (Obj.cells #[Value.int .i64 c, Value.int .i64 f] 25)).heap.size := by rw [World.size_alloc]; omega
  generalize World.alloc wn _ = W3 at *
  generalize wn.heap.size = b3 at *
  have q0 := f1.cells 0
  have q1 := f1.cells 1
  have q2 := f2.cells 0
  have q3 := f2.cells 1
  have q4 := f3.cells 0
  have q5 := f3.cells 1
  simp at q0 q1 q2 q3 q4 q5
  have T0 : Three w W3 w.heap.size W1.heap.size W2.heap.size o1 o2 o3 m k1 k2 k3 Z Z Z := ⟨hS.bel, Nat.le_refl _, z1, z2, z3, r1, r2, r3, u1, u2⟩
  have HT := hid T0
  clear T0 z1 z2 z3 r1 r2 r3 u1 u2 f1 f2 f3 c1 c2
  generalize W1.heap.size = P2 at *
  generalize W2.heap.size = P3 at *
  clear hS
  go_wp2_with fail
  clear q0 q1 q2 q3 q4 q5
  go_loopw [11] (fun i wr => ∃ k : Nat, i = .int .i64 k ∧ k ≤ m ∧ Three w wr w.heap.size P2 P3 o1 o2 o3 m k1 k2 k3 Z (over 201 k Z) (over 202 k Z)) (fun i _ => m - (intOf i).toNat)
  case atStart => exact ⟨0, rfl, Nat.zero_le _, by rw [over_zero, over_zero]; exact HT.out⟩
  case round =>
    obtain ⟨k, rfl, hk, hT⟩ := hrel
    obtain ⟨v1, v2⟩ := lr_ar k (by have := HZ.out; omega)
    clear HT
    by_cases ck : k < m
    · obtain ⟨g1, rfl⟩ := hT.r1.form (by omega)
      obtain ⟨g2, rfl⟩ := hT.r2.form (by omega)
      obtain ⟨g3, rfl⟩ := hT.r3.form (by omega)
      have kz : k < Z.length := by rw [HZ.out.1]; exact ck
      have l2 := over_len 201 k Z (by omega)
      have l3 := over_len 202 k Z (by omega)
      obtain ⟨e0, e1, e2, e3, e4⟩ := hT.r1.at HZ.out.1 k kz
      obtain ⟨a0, a1, a2, a3, a4⟩ := hT.r2.at (l2.trans HZ.out.1) k (by rw [l2]; exact kz)
      obtain ⟨d0, d1, d2, d3, d4⟩ := hT.r3.at (l3.trans HZ.out.1) k (by rw [l3]; exact kz)
      rw [over_at 201 k Z kz] at a0 a1 a2 a3 a4
      rw [over_at 202 k Z kz] at d0 d1 d2 d3 d4
      have HKZ := hid kz
      generalize Z[k] = y at *
      have x2 : (k : Int) < (m : Int) := by omega
      have x0 : (0 : Int) ≤ (k : Int) := by omega
      have HTT := hid hT
      have HC := hid ck
      clear hT hk ck l2 l3
      go_upto_region 11 with fail
      have inst : Nonempty (BW wr) := ⟨⟨_, Below.refl _ _⟩⟩
      have y0 := BW.cell a0
      have y1 := BW.cell a1
      have y2 := BW.cell a2
      have y3 := BW.cell a3
      have y4 := BW.cell a4
      have t0 := BW.cell d0
      have t1 := BW.cell d1
      have t2 := BW.cell d2
      have t3 := BW.cell d3
      have t4 := BW.cell d4
      have s0 := BW.cell e0
      have s1 := BW.cell e1
      have s2 := BW.cell e2
      have s3 := BW.cell e3
      have s4 := BW.cell e4
      clear a0 a1 a2 a3 a4 d0 d1 d2 d3 d4 e0 e1 e2 e3 e4
      refine wp_region_quiet_below (by kernel_rfl) (by kernel_rfl) ?_
      repeat (go_big_quiet_step (fail))
      refine wpQuiet_nil ?_
      intro _ hw'
      obtain ⟨pw, hw''⟩ := hw'
      subst hw''
      have hT := HTT.out.go pw.h
      replace y0 := y0 pw
      replace y1 := y1 pw
      replace y2 := y2 pw
      replace y3 := y3 pw
      replace y4 := y4 pw
      replace t0 := t0 pw
      replace t1 := t1 pw
      replace t2 := t2 pw
      replace t3 := t3 pw
      replace t4 := t4 pw
      clear s0 s1 s2 s3 s4 HTT inst
      generalize pw.w' = Wq at *
      have n1 : ¬ g3 = g2 := by have := (hT.r3.lt g3 rfl).1; have := hT.u2 g2 rfl; omega
      have n2 : ¬ g2 = g3 := fun e => n1 e.symm
      have z2 := hT.r2.frozenAt
      have z3 := hT.r3.frozenAt
      have HR := hid (hT.write k (yK 201) (yK 202))
      clear hT pw
      go_wp2
      go_roundw
      case rel =>
        have := HR.out
        rw [over_set 201 k Z HKZ.out, over_set 202 k Z HKZ.out] at this
        exact ⟨k + 1, by go_num, HC.out, this⟩
      case measure => have := HC.out; simp [intOf]; omega
    · have ek : k = m := by omega
      subst ek
      have x2 : ¬ (k : Int) < (k : Int) := by omega
      have o201 : over 201 k Z = List.replicate k (yK 201) := by have := over_all 201 Z; rw [HZ.out.1] at this; exact this
      have o202 : over 202 k Z = List.replicate k (yK 202) := by have := over_all 202 Z; rw [HZ.out.1] at this; exact this
      rw [o201, o202] at hT
      have HTT := hid hT
      clear hk ck v1 v2 hT o201 o202
      go_wp2_with (first | (at_builtin; refine wpList_append_own_at _ rfl _ _ 22 rfl P2 30 i0 _ 5 48 rowT hi hz0 hz1 hz2 rfl (by decide) _ _ _ rfl (HTT.out.r2.alloc _) ⟨_, 0, none⟩ 1 1 [.int .i64 201, .int .i64 0, .string ⟨#[]⟩, .int .i64 0, .int .u64 0] rfl rfl ?c1 ?c2 ?c3 ?c4 ?c5 ?_))
      case c2 => first | (intro u hu; simp at hu; rcases hu with rfl | rfl | rfl | rfl | rfl <;> rfl) | (simp; done) | exact ⟨rfl, rfl, rfl, rfl, rfl⟩ | rfl | decide
      case c3 => have := HZ.out.2; unfold maxLen; omega
      case c4 => have := HZ.out.2; omega
      case c5 => have := HTT.out.p3; have := HTT.out.p4; simp; omega
      · intro v' w1 hown' hgrow _ hblk
        obtain ⟨o8, c8, hv8⟩ := slice_ofX hown'
        subst hv8
        have R8 : RowT w1 P2 o8 (k + 1) c8 (List.replicate (k + 1) (yK 201)) := by unfold RowT; rw [rows_rep]; exact hown'
        have hU1 : It.Upd (fun j => (Value.slice o2 k k2).ownBlock = some j) wr w1 := (It.Upd.of_below ((Below.refl _ wr).alloc (Nat.le_refl _) _)).trans' ((It.Upd.refl _ _).grown hgrow (fun j e => .inl e))
        have hB1 : Below w.heap.size w w1 := (HTT.out.bel.alloc HTT.out.bel.size _).grown hgrow (by have := HTT.out.bel.size; simp; omega) (fun j e => by have := (HTT.out.r2.lt j e).1; have := HTT.out.p2; omega)
        have R3 : RowT w1 P3 o3 k k3 (List.replicate k (yK 202)) := HTT.out.r3.on (fun j e => hU1.block j (HTT.out.r3.lt j e).2 (fun e2 => by have := HTT.out.u2 j e2; have := (HTT.out.r3.lt j e).1; omega))
        have hne : ∀ j, (Value.slice o8 (k + 1) c8).ownBlock = some j → ¬ (Value.slice o3 k k3).ownBlock = some j := by
          intro j e e3
          have l3 := HTT.out.r3.lt j e3
          rcases hblk with hb8 | hb8
          · rw [hb8] at e
            have := HTT.out.u2 j e
            omega
          · rw [hb8] at e
            injection e with e
            omega
        have hz1' : P3 ≤ w1.heap.size := by have := HTT.out.p4; have := hU1.size; omega
        have HR8 := hid R8
        have HR3 := hid R3
        have HB1 := hid hB1
        have HNE := hid hne
        have HZ1 := hid hz1'
        have HW3 := hid (show w.heap.size ≤ P3 by have := HTT.out.p2; have := HTT.out.p3; omega)
        clear R8 R3 hB1 hne hz1' hU1 hblk hgrow hown' HTT
        go_wp2_with (first | (at_builtin; refine wpList_append_own_at _ rfl _ _ 22 rfl P3 30 i0 _ 5 48 rowT hi hz0 hz1 hz2 rfl (by decide) _ _ _ rfl (HR3.out.alloc _) ⟨_, 0, none⟩ 1 1 [.int .i64 202, .int .i64 0, .string ⟨#[]⟩, .int .i64 0, .int .u64 0] rfl rfl ?d1 ?d2 ?d3 ?d4 ?d5 ?_))
        case d1 =>
          intro j u hj
          match j, hj with
          | 0, hj => simp at hj; subst hj; simp [Addr.add]
          | 1, hj => simp at hj; subst hj; simp [Addr.add]
          | 2, hj => simp at hj; subst hj; simp [Addr.add]
          | 3, hj => simp at hj; subst hj; simp [Addr.add]
          | 4, hj => simp at hj; subst hj; simp [Addr.add]
        case d2 => first | (intro u hu; simp at hu; rcases hu with rfl | rfl | rfl | rfl | rfl <;> rfl) | (simp; done) | exact ⟨rfl, rfl, rfl, rfl, rfl⟩ | rfl | decide
        case d3 => have := HZ.out.2; unfold maxLen; omega
        case d4 => have := HZ.out.2; omega
        case d5 => have := HZ1.out; simp; omega
        · intro v'' w2 hown2 hgrow2 _ _
          obtain ⟨o9, c9, hv9⟩ := slice_ofX hown2
          subst hv9
          have R9 : RowT w2 P3 o9 (k + 1) c9 (List.replicate (k + 1) (yK 202)) := by unfold RowT; rw [rows_rep]; exact hown2
          have hU2 : It.Upd (fun j => (Value.slice o3 k k3).ownBlock = some j) w1 w2 := (It.Upd.of_below ((Below.refl _ w1).alloc (Nat.le_refl _) _)).trans' ((It.Upd.refl _ _).grown hgrow2 (fun j e => .inl e))
          have hB2 : Below w.heap.size w w2 := (HB1.out.alloc HB1.out.size _).grown hgrow2 (by have := HB1.out.size; simp; omega) (fun j e => by have := (HR3.out.lt j e).1; have := HW3.out; omega)
          have R8 : RowT w2 P2 o8 (k + 1) c8 (List.replicate (k + 1) (yK 201)) := HR8.out.on (fun j e => hU2.block j (HR8.out.lt j e).2 (HNE.out j e))
          have H2 := hid (Two.mk hB2 R8 R9)
          clear R9 R8 hB2 hU2 hgrow2 hown2 HR8 HR3 HB1 HNE HZ1 HW3
          obtain ⟨M, hM⟩ : ∃ M, k + 1 = M := ⟨_, rfl⟩
          rw [hM] at H2 ⊢
          have HM := hid (show M ≤ 5002 by have := HZ.out; omega)
          clear hM
          go_wp2_with fail
          go_loopw [12] (fun i wq => ∃ j : Nat, i = .int .i64 j ∧ j ≤ M ∧ wq = w2) (fun i _ => M - (intOf i).toNat)
          case atStart => exact ⟨0, rfl, by omega, rfl⟩
          case round =>
            obtain ⟨j, rfl, hj, hq⟩ := hrel
            have hq' := hq.symm
            subst hq'
            clear hq
            obtain ⟨vj, vj2⟩ := lr_ar j (by have := HM.out; omega)
            by_cases cj : j < M
            · obtain ⟨g8, rfl⟩ := H2.out.r2.form (by omega)
              obtain ⟨g9, rfl⟩ := H2.out.r3.form (by omega)
              have a0 := (H2.out.r2.at (by simp) j (by simpa using cj)).1
              have b0 := (H2.out.r3.at (by simp) j (by simpa using cj)).1
              rw [rep_at] at a0 b0
              have a0' : w2.cell? ⟨g8, j * 5, none⟩ = some (.int .i64 201) := a0
              have b0' : w2.cell? ⟨g9, j * 5, none⟩ = some (.int .i64 202) := b0
              have x2 : (j : Int) < (M : Int) := by omega
              have x0 : (0 : Int) ≤ (j : Int) := by omega
              have HC := hid cj
              clear a0 b0 cj hj
              go_wp2
              go_roundw
              case rel => exact ⟨j + 1, by go_num, HC.out, by first | rfl | trivial⟩
              case measure => have := HC.out; simp [intOf]; omega
            · have x2 : ¬ (j : Int) < (M : Int) := by omega
              have hS : Sx w w2 := ⟨H2.out.bel, HTM.out.1.below H2.out.bel, HTM.out.2.below H2.out.bel⟩
              have cv := tokens_c
              have hne := fn_nil
              clear cj hj vj vj2 H2
              go_wp2_with (first | (go_at_call 6; (with_reducible refine (cv _ _).mono ?_); rintro e w8 ⟨rfl, hw8⟩; (have hw' := hw8.symm); subst hw'; clear hw8; (replace hS := hS.alloc (.cells #[.string s] 9))) | (go_at_call 7; refine (CG.out _ _ hS.tabs hS.marks).mono ?_; rintro e wn ⟨rfl, hb⟩; (replace hS := hS.go hb); clear hb) | (go_at_call 8; refine (awake11_c _ hS.tabs hS.marks).mono ?_; rintro e wn ⟨rfl, hb⟩; (replace hS := hS.go hb); clear hb))
              trace_state
              go_ret
              exact ⟨rfl, hS.bel⟩
end Go.Proofs.YtdoojooepkdlhaaDoor.W
