import Derived.Test.YtgkakflnmpoadaaGreatDoorBase12
import Derived.Lib.ItoaNum
import Derived.Lib.TrailingZeros
import Derived.Lib.Bytealg
import Derived.Test.YtgkakflnmpoadaaGreatDoorBase0
import Derived.Below
import Derived.WalkSmall
import Derived.Lib.LaidTab
import Derived.Test.YtgkakflnmpoadaaGreatDoorShelf
import Derived.Sort.Grow
import Derived.Deep.RegionHeld3
/- Plain functions on texts of numbers, as bytes: what is printed, what is read; what is printed is read back. No Go in sight. -/
namespace Go.Proofs.YtgkakflnmpoadaaGreatDoor.W.Nu.Q

def hexB (c : UInt8) : Bool := decide (0 ≤ hexV c)
def digB (c : UInt8) : Bool := decide (48 ≤ c.toNat ∧ c.toNat ≤ 57)
/-- a whole number's text -/
def intT (i : Int) : List UInt8 := if i < 0 then 45 :: decL i.natAbs else decL i.natAbs
/-- digits as they may stand, with a sign ahead or not -/
def formI (m : Bool) (d : List UInt8) : Bool := !d.isEmpty && d.all digB && !(d.head? == some 48 && (decide (1 < d.length) || m))
/-- a whole number, and the error, that a text is read as -/
def readD (m : Bool) (d : List UInt8) : Int × Int :=
  if formI m d = true then
    (if (if m = true then valD d ≤ 9223372036854775808 else valD d < 9223372036854775808) then ((if m = true then -(valD d : Int) else valD d), 0) else (0, 13))
  else (0, 20)
def readI (l : List UInt8) : Int × Int :=
  if 64 < l.length then (0, 2) else match l with
  | 45 :: d => readD true d
  | d => readD false d
/-- digits, a point and digits or not, p, a sign, digits: the number of the digits, and what the last one counts -/
def readPow (N : Nat) (behind : Nat) (r : List UInt8) : Option (Nat × Int) :=
  match r with
  | 112 :: sg :: ds =>
    if (sg = 43 ∨ sg = 45) ∧ ds ≠ [] ∧ ds.length ≤ 5 ∧ ds.all digB = true then some (N, (if sg = 45 then -(valD ds : Int) else valD ds) - 4 * behind) else none
  | _ => none
def readBody (r : List UInt8) : Option (Nat × Int) :=
  if r.takeWhile hexB = [] then none else
  match r.dropWhile hexB with
  | 46 :: r1 => if r1.takeWhile hexB = [] then none else readPow (valH (r.takeWhile hexB ++ r1.takeWhile hexB)) (r1.takeWhile hexB).length (r1.dropWhile hexB)
  | r1 => readPow (valH (r.takeWhile hexB)) 0 r1
/-- behind a sign -/
def readS (s : Int) (l : List UInt8) : Int × Int :=
  match l with
  | 48 :: 120 :: r => match readBody r with
    | none => (0, 20)
    | some (N, low) => match exactP N low with
      | none => (0, 21)
      | some a => (s + a, 0)
  | _ => (0, 20)
def nanT : List UInt8 := [110, 97, 110]
def infT : List UInt8 := [105, 110, 102]
/-- a double's pattern, and the error, that a text is read as -/
def readF (l : List UInt8) : Int × Int :=
  if 64 < l.length then (0, 2) else if l = nanT then (9221120237041090560, 0) else if l = infT then (9218868437227405312, 0) else if l = 45 :: infT then (18442240474082181120, 0) else match l with
  | 45 :: b => readS 9223372036854775808 b
  | b => readS 0 b
/-- the text of a pattern without a sign that is no NaN -/
def posT (a : Nat) : List UInt8 :=
  if a = 9218868437227405312 then infT else if a = 0 then [48, 120, 48, 112, 43, 48]
  else [48, 120, 49] ++ (if fracOf a = 0 then [] else 46 :: fracL 13 (fracOf a)) ++ [112] ++ (if powOf a < 0 then [45] else [43]) ++ decL (powOf a).natAbs
def fltT (u : Int) : List UInt8 := if nanB u = true then nanT else if 9223372036854775808 ≤ u then 45 :: posT (u - 9223372036854775808).toNat else posT u.toNat

/-! ### there and back -/
theorem takeWhile_all {p : UInt8 → Bool} {l r : List UInt8} (h : ∀ c ∈ l, p c = true) (hr : ∀ c, r.head? = some c → p c = false) : (l ++ r).takeWhile p = l ∧ (l ++ r).dropWhile p = r := by
  induction l with
  | nil =>
    cases r with
    | nil => exact ⟨rfl, rfl⟩
    | cons c r =>
      have := hr c rfl
      exact ⟨by simp [this], by simp [this]⟩
  | cons c l ih =>
    have hc := h c (by simp)
    obtain ⟨i1, i2⟩ := ih (fun x hx => h x (by simp [hx]))
    exact ⟨by simp [hc, i1], by simp [hc, i2]⟩
theorem readPow_ok (N behind : Nat) (sg : UInt8) (ds : List UInt8) (h1 : sg = 43 ∨ sg = 45) (h2 : ds ≠ []) (h3 : ds.length ≤ 5) (h4 : ds.all digB = true) :
    readPow N behind (112 :: sg :: ds) = some (N, (if sg = 45 then -(valD ds : Int) else valD ds) - 4 * behind) := by
  unfold readPow
  exact if_pos ⟨h1, h2, h3, h4⟩
theorem readBody_plain (ah : List UInt8) (sg : UInt8) (ds : List UInt8) (ha : ∀ c ∈ ah, hexB c = true) (hn : ah ≠ []) (h1 : sg = 43 ∨ sg = 45) (h2 : ds ≠ []) (h3 : ds.length ≤ 5) (h4 : ds.all digB = true) :
    readBody (ah ++ 112 :: sg :: ds) = some (valH ah, (if sg = 45 then -(valD ds : Int) else valD ds)) := by
  obtain ⟨t1, t2⟩ := takeWhile_all (r := 112 :: sg :: ds) ha (fun c hc => by
    simp only [List.head?_cons, Option.some.injEq] at hc
    subst hc; decide)
  unfold readBody
  rw [t1, t2, if_neg hn]
  have := readPow_ok (valH ah) 0 sg ds h1 h2 h3 h4
  simpa using this
theorem readBody_point (ah bh : List UInt8) (sg : UInt8) (ds : List UInt8) (ha : ∀ c ∈ ah, hexB c = true) (hn : ah ≠ []) (hb : ∀ c ∈ bh, hexB c = true) (hbn : bh ≠ []) (h1 : sg = 43 ∨ sg = 45) (h2 : ds ≠ []) (h3 : ds.length ≤ 5) (h4 : ds.all digB = true) :
    readBody (ah ++ 46 :: (bh ++ 112 :: sg :: ds)) = some (valH (ah ++ bh), (if sg = 45 then -(valD ds : Int) else valD ds) - 4 * bh.length) := by
  obtain ⟨t1, t2⟩ := takeWhile_all (r := 46 :: (bh ++ 112 :: sg :: ds)) ha (fun c hc => by
    simp only [List.head?_cons, Option.some.injEq] at hc
    subst hc; decide)
  obtain ⟨s1, s2⟩ := takeWhile_all (r := 112 :: sg :: ds) hb (fun c hc => by
    simp only [List.head?_cons, Option.some.injEq] at hc
    subst hc; decide)
  unfold readBody
  rw [t1, t2, if_neg hn]
  simp only [s1, s2]
  rw [if_neg hbn]
  exact readPow_ok _ _ sg ds h1 h2 h3 h4
theorem dec_all (n : Nat) : (decL n).all digB = true := by
  rw [List.all_eq_true]
  intro c hc
  exact decide_eq_true (decL_digits n c hc)
theorem pow_len (a : Nat) (h0 : a ≠ 0) (h1 : a < 9218868437227405312) : (decL (powOf a).natAbs).length ≤ 4 := by
  obtain ⟨-, -, f3, f4⟩ := fracOf_spec a h0 h1
  exact decL_length _ 4 (by omega) (by omega)
theorem fracL_hex (f : Nat) (h1 : f < 4503599627370496) : ∀ c ∈ fracL 13 f, hexB c = true := by
  have e0 : (2 : Nat) ^ (52 - 4 * 13) = 1 := by decide
  obtain ⟨-, -, i3⟩ := fracL_val 13 f (Nat.le_refl _) h1 (by rw [e0]; omega)
  exact fun c hc => decide_eq_true (i3 c hc)
theorem fracL_ne (f : Nat) (h : f ≠ 0) : fracL 13 f ≠ [] := by unfold fracL; rw [if_neg h]; simp
/-- a text behind its sign is read back -/
theorem readS_pos (s : Int) (a : Nat) (h1 : a < 9218868437227405312) : readS s (posT a) = (s + a, 0) := by
  unfold posT
  rw [if_neg (by omega)]
  by_cases h0 : a = 0
  · subst h0
    rw [if_pos rfl]
    have e : readBody [48, 112, 43, 48] = some (0, 0) := by decide
    unfold readS
    simp only [e]
    have : exactP 0 0 = some 0 := by unfold exactP; rw [if_pos rfl]
    rw [this]; rfl
  · rw [if_neg h0]
    obtain ⟨f1, -, -, -⟩ := fracOf_spec a h0 h1
    have hd := dec_all (powOf a).natAbs
    have hl := pow_len a h0 h1
    have hne := decL_ne (powOf a).natAbs
    have ex := exact_text a h0 h1
    have pw : (if (if powOf a < 0 then (45 : UInt8) else 43) = 45 then -(valD (decL (powOf a).natAbs) : Int) else valD (decL (powOf a).natAbs)) = powOf a := by
      rw [valD_dec]
      by_cases g : powOf a < 0
      · rw [if_pos g, if_pos rfl]; omega
      · rw [if_neg g, if_neg (by decide)]; omega
    have sgn : (if powOf a < 0 then (45 : UInt8) else 43) = 43 ∨ (if powOf a < 0 then (45 : UInt8) else 43) = 45 := by
      by_cases g : powOf a < 0
      · rw [if_pos g]; exact Or.inr rfl
      · rw [if_neg g]; exact Or.inl rfl
    have hs : (if powOf a < 0 then [(45 : UInt8)] else [43]) = [if powOf a < 0 then 45 else 43] := by split <;> rfl
    have h49 : (49 : UInt8) = hexd 1 := by decide
    by_cases hf : fracOf a = 0
    · rw [if_pos hf, hs]
      rw [hf] at ex
      have e0 : fracL 13 0 = [] := rfl
      rw [e0] at ex
      have b := readBody_plain [49] _ _ (by intro c hc; simp at hc; subst hc; decide) (by simp) sgn hne (by omega) hd
      rw [pw] at b
      have et : [48, 120, 49] ++ [] ++ [112] ++ [if powOf a < 0 then (45 : UInt8) else 43] ++ decL (powOf a).natAbs = 48 :: 120 :: ([49] ++ 112 :: (if powOf a < 0 then (45 : UInt8) else 43) :: decL (powOf a).natAbs) := by simp
      rw [et]
      unfold readS
      simp only [b]
      rw [h49]
      have ex' : exactP (valH [hexd 1]) (powOf a) = some (a : Int) := by simpa using ex
      rw [ex']
    · rw [if_neg hf, hs]
      have b := readBody_point [49] (fracL 13 (fracOf a)) _ _ (by intro c hc; simp at hc; subst hc; decide) (by simp) (fracL_hex _ f1) (fracL_ne _ hf) sgn hne (by omega) hd
      rw [pw] at b
      have et : [48, 120, 49] ++ 46 :: fracL 13 (fracOf a) ++ [112] ++ [if powOf a < 0 then (45 : UInt8) else 43] ++ decL (powOf a).natAbs = 48 :: 120 :: ([49] ++ 46 :: (fracL 13 (fracOf a) ++ 112 :: (if powOf a < 0 then (45 : UInt8) else 43) :: decL (powOf a).natAbs)) := by simp
      rw [et]
      unfold readS
      simp only [b]
      rw [h49]
      have ex' : exactP (valH ([hexd 1] ++ fracL 13 (fracOf a))) (powOf a - 4 * (fracL 13 (fracOf a)).length) = some (a : Int) := ex
      rw [ex']
theorem posT_len (a : Nat) (h1 : a ≤ 9218868437227405312) : (posT a).length ≤ 23 := by
  unfold posT
  by_cases hi : a = 9218868437227405312
  · rw [if_pos hi]; decide
  · rw [if_neg hi]
    by_cases h0 : a = 0
    · rw [if_pos h0]; decide
    · rw [if_neg h0]
      have hl := pow_len a h0 (by omega)
      obtain ⟨f1, -, -, -⟩ := fracOf_spec a h0 (by omega)
      obtain ⟨g1, -⟩ := one_frac (fracOf a) f1
      have e1 : (if fracOf a = 0 then [] else (46 : UInt8) :: fracL 13 (fracOf a)).length ≤ 14 := by
        split
        · simp
        · simp only [List.length_cons]; omega
      have e2 : (if powOf a < 0 then [(45 : UInt8)] else [43]).length = 1 := by split <;> rfl
      simp only [List.length_append, e2, List.length_cons, List.length_nil]
      omega
theorem posT_head (a : Nat) : (posT a).head? = some 105 ∨ (posT a).head? = some 48 := by
  unfold posT
  split
  · exact Or.inl rfl
  · split
    · exact Or.inr rfl
    · exact Or.inr rfl
/-- what is printed of a double is read back, NaNs made one -/
theorem readF_back (u : Int) (u0 : 0 ≤ u) (u1 : u < 18446744073709551616) : readF (fltT u) = (fltW u, 0) := by
  unfold fltT fltW
  cases hn : nanB u with
  | true => rw [if_pos rfl, if_pos rfl]; decide
  | false =>
    simp only [Bool.false_eq_true, if_false]
    have hm : u % 9223372036854775808 ≤ 9218868437227405312 := by
      simp only [nanB, decide_eq_false_iff_not] at hn
      omega
    by_cases hs : 9223372036854775808 ≤ u
    · rw [if_pos hs]
      generalize hA : (u - 9223372036854775808).toNat = a
      have ha : a ≤ 9218868437227405312 := by omega
      have hl := posT_len a ha
      by_cases hi : a = 9218868437227405312
      · have e : u = 18442240474082181120 := by omega
        rw [e, hi]; decide
      · have h48 : (posT a).head? = some 48 := by
          rcases posT_head a with h | h
          · exfalso
            unfold posT at h
            rw [if_neg hi] at h
            split at h <;> cases h
          · exact h
        unfold readF
        rw [if_neg (by simp only [List.length_cons]; omega), if_neg (by intro e; injection e with e1 e2; revert e1; decide), if_neg (by intro e; injection e with e1 e2; revert e1; decide), if_neg (by intro e; injection e with e1 e2; rw [e2] at h48; revert h48; decide)]
        show readS 9223372036854775808 (posT a) = _
        rw [readS_pos _ a (by omega)]
        congr 1; omega
    · rw [if_neg hs]
      generalize hA : u.toNat = a
      have ha : a ≤ 9218868437227405312 := by omega
      have hl := posT_len a ha
      by_cases hi : a = 9218868437227405312
      · have e : u = 9218868437227405312 := by omega
        rw [e, hi]; decide
      · have h48 : (posT a).head? = some 48 := by
          rcases posT_head a with h | h
          · exfalso
            unfold posT at h
            rw [if_neg hi] at h
            split at h <;> cases h
          · exact h
        have r := readS_pos 0 a (by omega)
        unfold readF
        rw [if_neg (by omega), if_neg (by intro e; rw [e] at h48; revert h48; decide), if_neg (by intro e; rw [e] at h48; revert h48; decide), if_neg (by intro e; rw [e] at h48; revert h48; decide)]
        cases hp : posT a with
        | nil => rw [hp] at h48; cases h48
        | cons c l =>
          rw [hp] at h48 r
          simp only [List.head?_cons, Option.some.injEq] at h48
          subst h48
          show readS 0 (48 :: l) = _
          rw [r]
          congr 1; omega
/-- what is printed of a whole number is read back -/
theorem readI_back (i : Int) (i0 : -9223372036854775808 ≤ i) (i1 : i < 9223372036854775808) : readI (intT i) = (i, 0) := by
  have len : (decL i.natAbs).length ≤ 19 := decL_length _ 19 (by omega) (by omega)
  have form : ∀ m : Bool, (m = true → i.natAbs ≠ 0) → formI m (decL i.natAbs) = true := by
    intro m hm
    obtain ⟨g1, g2, g3⟩ := decL_good i.natAbs
    unfold formI
    have a1 : (decL i.natAbs).isEmpty = false := by simpa using g1
    have h48 : (48 : UInt8) = dig 0 := by decide
    rw [a1, dec_all]
    by_cases hz : i.natAbs = 0
    · have mf : m = false := by
        cases m
        · rfl
        · exact absurd hz (hm rfl)
      rw [hz, mf, decL_small (by omega)]; decide
    · have hh := decL_head i.natAbs hz
      rw [← h48] at hh
      have : ((decL i.natAbs).head? == some 48) = false := by simpa using hh
      rw [this]; rfl
  unfold intT
  by_cases hs : i < 0
  · rw [if_pos hs]
    unfold readI
    rw [if_neg (by simp only [List.length_cons]; omega)]
    show readD true (decL i.natAbs) = _
    unfold readD
    rw [if_pos (form true (fun _ => by omega)), valD_dec]
    rw [if_pos (by rw [if_pos rfl]; omega), if_pos rfl]
    congr 1; omega
  · rw [if_neg hs]
    unfold readI
    rw [if_neg (by omega)]
    have hd := decL_digits i.natAbs
    have key : readD false (decL i.natAbs) = (i, 0) := by
      unfold readD
      rw [if_pos (form false (fun h => by cases h)), valD_dec, if_pos (by rw [if_neg (by decide)]; omega), if_neg (by decide)]
      congr 1; omega
    cases hp : decL i.natAbs with
    | nil => exact absurd hp (decL_ne _)
    | cons c l =>
      rw [hp] at hd key
      have hc := hd c (by simp)
      have hne : c ≠ 45 := by intro e; subst e; revert hc; decide
      split
      · rename_i d e
        injection e with e1 e2
        exact absurd e1 hne
      · exact key
end Go.Proofs.YtgkakflnmpoadaaGreatDoor.W.Nu.Q
/- Plain facts on texts of numbers, more: what is read as a whole number is printed the same; no NaN but one is read; a number's text says of which kind it is. No Go in sight. -/
namespace Go.Proofs.YtgkakflnmpoadaaGreatDoor.W.Nu.Q

/-! ### of which kind -/
/-- does a text say a double? -/
def floatB (l : List UInt8) : Bool := (match l with | 45 :: 48 :: 120 :: _ => true | 48 :: 120 :: _ => true | _ => false) || l == nanT || l == infT || l == 45 :: infT
/-- a number, and the error, that a text is read as -/
def readN (l : List UInt8) : Bool × Int × Int × Int :=
  if 64 < l.length then (false, 0, 0, 2)
  else if floatB l = true then (if (readF l).2 = 0 then (false, 0, (readF l).1, 0) else (false, 0, 0, (readF l).2))
  else (if (readI l).2 = 0 then (true, (readI l).1, 0, 0) else (false, 0, 0, (readI l).2))
theorem dec_second (n : Nat) : ∀ l, decL n ≠ 48 :: 120 :: l := by
  intro l h
  have := decL_digits n 120 (by rw [h]; simp)
  revert this
  decide
theorem int_kind (i : Int) : floatB (intT i) = false := by
  have hd := decL_digits i.natAbs
  have hne := decL_ne i.natAbs
  have no : ∀ c l, decL i.natAbs = c :: l → c ≠ 45 ∧ c ≠ 110 ∧ c ≠ 105 := by
    intro c l h
    have hc := hd c (by rw [h]; simp)
    refine ⟨?_, ?_, ?_⟩ <;> (intro e; subst e; revert hc; decide)
  have s2 := dec_second i.natAbs
  unfold intT
  cases hp : decL i.natAbs with
  | nil => exact absurd hp hne
  | cons c l =>
    obtain ⟨n1, n2, n3⟩ := no c l hp
    rw [hp] at s2
    have q2 : (c :: l == nanT) = false := by
      rw [beq_eq_false_iff_ne]; intro e; injection e with e1 e2; exact n2 e1
    have q3 : (c :: l == infT) = false := by
      rw [beq_eq_false_iff_ne]; intro e; injection e with e1 e2; exact n3 e1
    have q4 : (c :: l == 45 :: infT) = false := by
      rw [beq_eq_false_iff_ne]; intro e; injection e with e1 e2; exact n1 e1
    have p2 : (45 :: c :: l == nanT) = false := by
      rw [beq_eq_false_iff_ne]; intro e; injection e with e1 e2; revert e1; decide
    have p3 : (45 :: c :: l == infT) = false := by
      rw [beq_eq_false_iff_ne]; intro e; injection e with e1 e2; revert e1; decide
    have p4 : (45 :: c :: l == 45 :: infT) = false := by
      rw [beq_eq_false_iff_ne]; intro e; injection e with e1 e2; injection e2 with e3 e4; exact n3 e3
    by_cases hs : i < 0
    · rw [if_pos hs]
      unfold floatB
      rw [p2, p3, p4]
      split
      · rename_i r e
        injection e with e1 e2
        exact absurd e2 (s2 r)
      · rename_i r e
        injection e with e1 e2
        revert e1; decide
      · rfl
    · rw [if_neg hs]
      unfold floatB
      rw [q2, q3, q4]
      split
      · rename_i r e
        injection e with e1 e2
        exact absurd e1 n1
      · rename_i r e
        exact absurd e (s2 r)
      · rfl
theorem int_len (i : Int) (i0 : -9223372036854775808 ≤ i) (i1 : i < 9223372036854775808) : (intT i).length ≤ 20 := by
  have len : (decL i.natAbs).length ≤ 19 := decL_length _ 19 (by omega) (by omega)
  unfold intT
  split
  · simp only [List.length_cons]; omega
  · omega
theorem readN_int (i : Int) (i0 : -9223372036854775808 ≤ i) (i1 : i < 9223372036854775808) : readN (intT i) = (true, i, 0, 0) := by
  have l := int_len i i0 i1
  unfold readN
  rw [if_neg (by omega), int_kind, if_neg (by decide), readI_back i i0 i1]
  rfl
theorem posT_kind (a : Nat) : floatB (posT a) = true ∧ floatB (45 :: posT a) = true := by
  unfold posT
  split
  · exact ⟨by decide, by decide⟩
  · split
    · exact ⟨by decide, by decide⟩
    · exact ⟨rfl, rfl⟩
theorem flt_kind (u : Int) : floatB (fltT u) = true := by
  unfold fltT
  split
  · decide
  · split
    · exact (posT_kind _).2
    · exact (posT_kind _).1
theorem flt_len (u : Int) (u0 : 0 ≤ u) (u1 : u < 18446744073709551616) : (fltT u).length ≤ 24 := by
  unfold fltT
  cases hn : nanB u with
  | true => rw [if_pos rfl]; decide
  | false =>
    simp only [Bool.false_eq_true, if_false]
    have hm : u % 9223372036854775808 ≤ 9218868437227405312 := by
      simp only [nanB, decide_eq_false_iff_not] at hn
      omega
    split
    · have := posT_len (u - 9223372036854775808).toNat (by omega)
      simp only [List.length_cons]; omega
    · have := posT_len u.toNat (by omega)
      omega
theorem readN_flt (u : Int) (u0 : 0 ≤ u) (u1 : u < 18446744073709551616) : readN (fltT u) = (false, 0, fltW u, 0) := by
  have l := flt_len u u0 u1
  unfold readN
  rw [if_neg (by omega), flt_kind, if_pos rfl, readF_back u u0 u1]
  rfl
end Go.Proofs.YtgkakflnmpoadaaGreatDoor.W.Nu.Q
/- Plain facts on texts of numbers, more: signs ahead; one number written otherwise, with noughts ahead of its digits or behind them. No Go in sight. -/
namespace Go.Proofs.YtgkakflnmpoadaaGreatDoor.W.Nu.Q

end Go.Proofs.YtgkakflnmpoadaaGreatDoor.W.Nu.Q
/- Plain facts on rows of bits, as the reference of package numtext has them: the number that a row is, and which pattern it makes. No Go in sight. -/
namespace Go.Proofs.YtgkakflnmpoadaaGreatDoor.W.Nu.Q

end Go.Proofs.YtgkakflnmpoadaaGreatDoor.W.Nu.Q
/- Plain facts for package numtext: what the library's functions compute, in the words of the texts on numbers; digits that are read one by one. No Go in sight. -/
namespace Go.Proofs.YtgkakflnmpoadaaGreatDoor.W.Nu.Q

theorem decDigits_eq' (n : Nat) : Lib.decDigits n = decL n := by
  induction n using Nat.strongRecOn with
  | _ n ih =>
    rw [Lib.decDigits, decL]
    by_cases h : n < 10
    · rw [dif_pos h, if_pos h]; rfl
    · rw [dif_neg h, if_neg h, ih (n / 10) (by omega)]; rfl
theorem itoa_intT (i : Int) : Lib.itoa i = intT i := by
  unfold Lib.itoa intT
  by_cases h : i < 0
  · rw [if_pos h, if_pos h, decDigits_eq']
  · rw [if_neg h, if_neg h, decDigits_eq']
    congr 1; omega
theorem log2_half (x : Nat) (h : 2 ≤ x) : x.log2 = (x / 2).log2 + 1 := by
  rw [Nat.log2_def, if_pos h]
theorem bitLen_log (x : Nat) (h0 : x ≠ 0) (h : x < 18446744073709551616) : Lib.bitLen x = x.log2 + 1 := by
  induction x using Nat.strongRecOn with
  | _ x ih =>
    rw [Lib.bitLen_half x h0 (by omega)]
    by_cases h2 : 2 ≤ x
    · rw [ih (x / 2) (by omega) (by omega) (by omega), log2_half x h2]; omega
    · have : x = 1 := by omega
      subst this
      decide
theorem ctzFrom_twos (f x : Nat) (h0 : x ≠ 0) (h : x < 2 ^ f) : Lib.ctzFrom f x = twos x := by
  induction f generalizing x with
  | zero => simp at h; omega
  | succ f ih =>
    rw [Lib.ctzFrom, twos, if_neg h0]
    by_cases g : x % 2 = 1
    · rw [if_pos g, if_neg (by omega)]
    · rw [if_neg g, if_pos (by omega), ih (x / 2) (by omega) (by rw [Nat.pow_succ] at h; omega)]
      omega
theorem ctz_twos (x : Nat) (h0 : x ≠ 0) (h : x < 18446744073709551616) : Lib.ctz 64 x = twos x := by
  unfold Lib.ctz
  rw [if_neg h0, ctzFrom_twos 64 x h0 (by omega)]
/-- a hexadecimal digit's number, by its place among the digits -/
def hexL : List UInt8 := [48, 49, 50, 51, 52, 53, 54, 55, 56, 57, 97, 98, 99, 100, 101, 102]
theorem index_hex (c : UInt8) : Lib.indexByte hexL c = hexV c := by
  have all : ∀ n : Fin 256, Lib.indexByte hexL (UInt8.ofNat n.val) = hexV (UInt8.ofNat n.val) := by decide +kernel
  have := all ⟨c.toNat, c.toNat_lt⟩
  simpa using this
theorem prefix_minus (l : List UInt8) : Lib.hasPrefix l [45] = (match l with | 45 :: _ => true | _ => false) ∧ Lib.trimPrefix l [45] = (match l with | 45 :: d => d | d => d) := by
  unfold Lib.trimPrefix Lib.hasPrefix
  cases l with
  | nil => exact ⟨rfl, rfl⟩
  | cons c r =>
    by_cases h : c = 45
    · subst h; exact ⟨rfl, rfl⟩
    · have e : List.isPrefixOf [45] (c :: r) = false := by
        have : (45 == c) = false := by simpa using fun e => h e.symm
        simp [List.isPrefixOf, this]
      rw [e]
      constructor
      · split
        · rename_i e1; injection e1 with e2 e3; exact absurd e2 h
        · rfl
      · simp only [Bool.false_eq_true, if_false]
        split
        · rename_i e1; injection e1 with e2 e3; exact absurd e2 h
        · rfl
/-! ### how wide a number is -/
theorem twos_half (n : Nat) (h : n ≠ 0) (g : n % 2 = 0) : twos n = twos (n / 2) + 1 := by rw [twos, if_neg h, if_pos g]
theorem twos_odd (n : Nat) (g : n % 2 = 1) : twos n = 0 := by rw [twos, if_neg (by omega), if_neg (by omega)]
theorem log2_odd (n : Nat) (h : n ≠ 0) : n.log2 = (oddN n).log2 + twos n := by
  induction n using Nat.strongRecOn with
  | _ n ih =>
    by_cases g : n % 2 = 0
    · rw [twos_half n h g, oddN, if_neg h, if_pos g, log2_half n (by omega), ih (n / 2) (by omega) (by omega)]
      omega
    · rw [twos_odd n (by omega), oddN, if_neg h, if_neg g]; rfl
theorem log2_digit (n d : Nat) (h : n ≠ 0) (hd : d < 16) : (16 * n + d).log2 = n.log2 + 4 := by
  obtain ⟨l1, l2⟩ := high_le h
  rw [Nat.log2_eq_iff (by omega), Nat.pow_add, Nat.pow_add, Nat.pow_add]
  rw [Nat.pow_add] at l2
  omega
theorem twos_digit (n d : Nat) (h : n ≠ 0) (hd : d < 16) : twos (16 * n + d) ≤ twos n + 4 := by
  have e : ∀ m, m ≠ 0 → m % 2 = 0 → twos m = twos (m / 2) + 1 := twos_half
  by_cases g1 : (16 * n + d) % 2 = 0
  · rw [e _ (by omega) g1]
    by_cases g2 : ((16 * n + d) / 2) % 2 = 0
    · rw [e _ (by omega) g2]
      by_cases g3 : ((16 * n + d) / 2 / 2) % 2 = 0
      · rw [e _ (by omega) g3]
        by_cases g4 : ((16 * n + d) / 2 / 2 / 2) % 2 = 0
        · rw [e _ (by omega) g4]
          have : (16 * n + d) / 2 / 2 / 2 / 2 = n := by omega
          rw [this]
          exact Nat.le_refl _
        · rw [twos_odd _ (by omega)]; omega
      · rw [twos_odd _ (by omega)]; omega
    · rw [twos_odd _ (by omega)]; omega
  · rw [twos_odd _ (by omega)]; omega
/-- more digits than a double holds -/
def wideN (n : Nat) : Prop := n ≠ 0 ∧ twos n + 53 ≤ n.log2
theorem wide_digit {n : Nat} (h : wideN n) (d : Nat) (hd : d < 16) : wideN (16 * n + d) := by
  obtain ⟨h1, h2⟩ := h
  have a := log2_digit n d h1 hd
  have b := twos_digit n d h1 hd
  exact ⟨by omega, by omega⟩
theorem wide_none {n : Nat} (h : wideN n) (low : Int) : exactP n low = none := by
  obtain ⟨h1, h2⟩ := h
  have := log2_odd n h1
  unfold exactP
  rw [if_neg h1, if_pos (Or.inl (by omega))]
theorem twos_low (n : Nat) (h : n % 16 ≠ 0) : twos n ≤ 3 := by
  have e := twos_half
  by_cases g1 : n % 2 = 0
  · rw [e _ (by omega) g1]
    by_cases g2 : (n / 2) % 2 = 0
    · rw [e _ (by omega) g2]
      by_cases g3 : (n / 2 / 2) % 2 = 0
      · rw [e _ (by omega) g3, twos_odd _ (by omega)]; omega
      · rw [twos_odd _ (by omega)]; omega
    · rw [twos_odd _ (by omega)]; omega
  · rw [twos_odd _ (by omega)]; omega
theorem log2_mul_pow (n k : Nat) (h : n ≠ 0) : (n * 2 ^ k).log2 = n.log2 + k := by
  obtain ⟨l1, l2⟩ := high_le h
  have p := Nat.two_pow_pos k
  have hne : n * 2 ^ k ≠ 0 := Nat.mul_ne_zero h (by omega)
  rw [Nat.log2_eq_iff hne]
  refine ⟨by rw [Nat.pow_add]; exact Nat.mul_le_mul_right _ l1, ?_⟩
  have : (n + 1) * 2 ^ k ≤ 2 ^ (n.log2 + 1) * 2 ^ k := Nat.mul_le_mul_right _ l2
  rw [← Nat.pow_add, Nat.add_mul, Nat.one_mul] at this
  have e : n.log2 + 1 + k = n.log2 + k + 1 := by omega
  rw [e] at this
  omega
/-- a digit that no longer fits makes the number wide -/
theorem wide_make (v z d : Nat) (hv : v ≠ 0) (hd0 : d ≠ 0) (hd : d < 16) (hl : 64 < v.log2 + 1 + 4 * (z + 1)) : wideN (16 * (v * 16 ^ z) + d) := by
  have ne : v * 16 ^ z ≠ 0 := Nat.mul_ne_zero hv (Nat.pos_iff_ne_zero.1 (Nat.pow_pos (by decide)))
  have l : (v * 16 ^ z).log2 = v.log2 + 4 * z := by rw [pow16, log2_mul_pow v _ hv]
  have a := log2_digit _ d ne hd
  have b := twos_low (16 * (v * 16 ^ z) + d) (by omega)
  exact ⟨by omega, by omega⟩
/-- one that fits: what the value becomes -/
theorem fits_make (v z d : Nat) (hd : d < 16) (h : v = 0 ∨ v.log2 + 1 + 4 * (z + 1) ≤ 64) : v * 2 ^ (4 * (z + 1)) + d < 18446744073709551616 ∧ v * 2 ^ (4 * (z + 1)) + d = 16 * (v * 16 ^ z) + d := by
  have e : v * 2 ^ (4 * (z + 1)) = 16 * (v * 16 ^ z) := by
    rw [← pow16, Nat.pow_succ, Nat.mul_comm 16, Nat.mul_assoc]
  refine ⟨?_, by rw [e]⟩
  rcases h with h | h
  · subst h; rw [Nat.zero_mul]; omega
  · by_cases hv : v = 0
    · subst hv; rw [Nat.zero_mul]; omega
    obtain ⟨l1, l2⟩ := high_le hv
    have p := Nat.two_pow_pos (4 * (z + 1))
    have h1 : (v + 1) * 2 ^ (4 * (z + 1)) ≤ 2 ^ (v.log2 + 1) * 2 ^ (4 * (z + 1)) := Nat.mul_le_mul_right _ l2
    rw [← Nat.pow_add, Nat.add_mul, Nat.one_mul] at h1
    have h2 : 2 ^ (v.log2 + 1 + 4 * (z + 1)) ≤ 2 ^ 64 := Nat.pow_le_pow_right (by decide) h
    have h3 : (2 : Nat) ^ 64 = 18446744073709551616 := by decide
    have h4 : 2 ^ 4 ≤ 2 ^ (4 * (z + 1)) := Nat.pow_le_pow_right (by decide) (by omega)
    omega
/-! ### digits read one by one -/
/-- what is known of the digits read so far: the value, the noughts kept back, or that they are too wide -/
def Dig (D : List UInt8) (v : Nat) (z : Nat) (wd : Bool) : Prop :=
  v < 18446744073709551616 ∧ z ≤ D.length ∧ (wd = true → wideN (valH D)) ∧ (wd = false → valH D = v * 16 ^ z)
theorem Dig.start : Dig [] 0 0 false := ⟨by decide, Nat.le_refl _, (by intro h; cases h), fun _ => rfl⟩
theorem Dig.nought {D : List UInt8} {v z : Nat} {wd : Bool} (h : Dig D v z wd) (c : UInt8) (hc : hexV c = 0) : Dig (D ++ [c]) v (z + 1) wd := by
  obtain ⟨h1, h2, h3, h4⟩ := h
  have e : valH (D ++ [c]) = 16 * valH D + 0 := by rw [valH_snoc, hc]; rfl
  refine ⟨h1, by simp; omega, fun hw => ?_, fun hw => ?_⟩
  · rw [e]; exact wide_digit (h3 hw) 0 (by decide)
  · rw [e, h4 hw, Nat.pow_succ, Nat.add_zero, Nat.mul_comm 16, Nat.mul_assoc]
theorem Dig.fits {D : List UInt8} {v z : Nat} {wd : Bool} (h : Dig D v z wd) (c : UInt8) (d : Nat) (hc : hexV c = d) (hf : v = 0 ∨ v.log2 + 1 + 4 * (z + 1) ≤ 64) : Dig (D ++ [c]) (v * 2 ^ (4 * (z + 1)) + d) 0 wd := by
  obtain ⟨h1, h2, h3, h4⟩ := h
  have hd : d < 16 := by have := hexV_range c; omega
  have e : valH (D ++ [c]) = 16 * valH D + d := by rw [valH_snoc, hc]; rfl
  obtain ⟨f1, f2⟩ := fits_make v z d hd hf
  refine ⟨f1, Nat.zero_le _, fun hw => ?_, fun hw => ?_⟩
  · rw [e]; exact wide_digit (h3 hw) d hd
  · rw [e, h4 hw, f2, Nat.pow_zero, Nat.mul_one]
theorem Dig.over {D : List UInt8} {v z : Nat} {wd : Bool} (h : Dig D v z wd) (c : UInt8) (d : Nat) (hc : hexV c = d) (hd0 : d ≠ 0) (hv : v ≠ 0) (hf : 64 < v.log2 + 1 + 4 * (z + 1)) : Dig (D ++ [c]) v 0 true := by
  obtain ⟨h1, h2, h3, h4⟩ := h
  have hd : d < 16 := by have := hexV_range c; omega
  have e : valH (D ++ [c]) = 16 * valH D + d := by rw [valH_snoc, hc]; rfl
  refine ⟨h1, Nat.zero_le _, fun _ => ?_, by intro h; cases h⟩
  rw [e]
  cases wd with
  | true => exact wide_digit (h3 rfl) d hd
  | false => rw [h4 rfl]; exact wide_make v z d hv hd0 hd hf
/-- which pattern it is, in the end -/
def numP (v : Nat) (wd : Bool) (low : Int) : Option Int := if wd = true then none else exactP v low
theorem Dig.exact {D : List UInt8} {v z : Nat} {wd : Bool} (h : Dig D v z wd) (low : Int) : exactP (valH D) low = numP v wd (low + 4 * z) := by
  obtain ⟨h1, h2, h3, h4⟩ := h
  unfold numP
  cases wd with
  | true => rw [if_pos rfl]; exact wide_none (h3 rfl) low
  | false =>
    rw [if_neg (by decide), h4 rfl, pow16, exact_shift]
    congr 1
/-- the places of the digits: with a point or none -/
def Place (t : List UInt8) (point : Int) (D : List UInt8) : Prop :=
  (point = -1 ∧ D = t ∧ ∀ c ∈ t, hexB c = true) ∨
  (∃ A B, t = A ++ 46 :: B ∧ D = A ++ B ∧ point = A.length ∧ (∀ c ∈ A, hexB c = true) ∧ ∀ c ∈ B, hexB c = true)
theorem Place.start : Place [] (-1) [] := Or.inl ⟨rfl, rfl, by simp⟩
theorem Place.digit {t D : List UInt8} {point : Int} (h : Place t point D) (c : UInt8) (hc : hexB c = true) : Place (t ++ [c]) point (D ++ [c]) := by
  rcases h with ⟨h1, h2, h3⟩ | ⟨A, B, h1, h2, h3, h4, h5⟩
  · refine Or.inl ⟨h1, by rw [h2], fun x hx => ?_⟩
    rcases List.mem_append.1 hx with hx | hx
    · exact h3 x hx
    · simp only [List.mem_singleton] at hx; rw [hx]; exact hc
  · refine Or.inr ⟨A, B ++ [c], by rw [h1]; simp, by rw [h2]; simp, h3, h4, fun x hx => ?_⟩
    rcases List.mem_append.1 hx with hx | hx
    · exact h5 x hx
    · simp only [List.mem_singleton] at hx; rw [hx]; exact hc
theorem Place.point {t D : List UInt8} {point : Int} (h : Place t point D) (hp : point < 0) : Place (t ++ [46]) t.length D ∧ D.length = t.length := by
  rcases h with ⟨h1, h2, h3⟩ | ⟨A, B, h1, h2, h3, h4, h5⟩
  · exact ⟨Or.inr ⟨t, [], rfl, by rw [h2, List.append_nil], rfl, h3, by simp⟩, by rw [h2]⟩
  · omega
/-- what readBody makes of digits that end at a byte that is none -/
def stopB (point : Int) (rest : List UInt8) : Prop := ∀ c, rest.head? = some c → hexB c = false ∧ (c = 46 → 0 ≤ point)
theorem place_body {t D rest : List UInt8} {point : Int} (h : Place t point D) (hs : stopB point rest) :
    readBody (t ++ rest) = if t.length = 0 ∨ point = 0 ∨ point = (t.length : Int) - 1 then none else readPow (valH D) (if 0 < point then t.length - 1 - point.toNat else 0) rest := by
  have d46 : hexB 46 = false := by decide
  rcases h with ⟨h1, h2, h3⟩ | ⟨A, B, h1, h2, h3, h4, h5⟩
  · obtain ⟨t1, t2⟩ := takeWhile_all (r := rest) h3 (fun c hc => (hs c hc).1)
    unfold readBody
    rw [t1, t2]
    by_cases ht : t = []
    · rw [if_pos ht, if_pos (Or.inl (by rw [ht]; rfl))]
    · have hl : t.length ≠ 0 := fun e => ht (List.eq_nil_of_length_eq_zero e)
      rw [if_neg ht, if_neg (by rintro (e | e | e) <;> omega), if_neg (by omega), h2]
      split
      · rename_i r1
        have := (hs 46 rfl).2 rfl
        omega
      · rfl
  · have e : t ++ rest = A ++ 46 :: (B ++ rest) := by rw [h1]; simp
    have hl : t.length = A.length + 1 + B.length := by rw [h1]; simp; omega
    obtain ⟨t1, t2⟩ := takeWhile_all (r := 46 :: (B ++ rest)) h4 (fun c hc => by
      simp only [List.head?_cons, Option.some.injEq] at hc
      subst hc; exact d46)
    obtain ⟨s1, s2⟩ := takeWhile_all (r := rest) h5 (fun c hc => (hs c hc).1)
    unfold readBody
    rw [e, t1, t2]
    simp only [s1, s2]
    by_cases hA : A = []
    · rw [if_pos hA, if_pos (Or.inr (Or.inl (by rw [h3, hA]; rfl)))]
    · have hAl : A.length ≠ 0 := fun e => hA (List.eq_nil_of_length_eq_zero e)
      rw [if_neg hA]
      by_cases hB : B = []
      · rw [if_pos hB, if_pos (Or.inr (Or.inr (by rw [h3, hl, hB]; simp)))]
      · have hBl : B.length ≠ 0 := fun e => hB (List.eq_nil_of_length_eq_zero e)
        rw [if_neg hB, if_neg (by rintro (e | e | e) <;> omega), if_pos (by omega), h2]
        congr 1
        omega
end Go.Proofs.YtgkakflnmpoadaaGreatDoor.W.Nu.Q
/- Worlds, as the contracts of package numtext want them: what was there stays; the library's tables lie as they were laid. -/
namespace Go.Proofs.YtgkakflnmpoadaaGreatDoor.W.Nu.Q
open Go.ChangeShapes Go.WideShapes Go.RowKit

theorem bel_trans {a b c : World} (h : Below a.heap.size a b) (k : Below b.heap.size b c) : Below a.heap.size a c := h.trans (k.mono h.size)
/-- the two tables of the library that are read -/
def Tabs (w : World) : Prop :=
  Lib.TabIs Tryz.prog w "internal/strconv.uint64pow10" .u64 Lib.pow10Tab ∧ ∀ j, j < Lib.deBruijn64tab.length → w.cell? ⟨3, j, none⟩ = some (.int .u8 (Lib.deBruijn64tab.getD j 0))
theorem pow10_g : Tryz.prog.globalNamed "internal/strconv.uint64pow10" = some 2 := by kernel_rfl
theorem Tabs.below {w w' : World} (h : Tabs w) (hb : Below w.heap.size w w') : Tabs w' := by
  obtain ⟨h1, h2⟩ := h
  refine ⟨?_, fun j hj => ?_⟩
  · have lt : 2 < w.heap.size := by
      apply Nat.lt_of_not_le
      intro hle
      have e : w.heap[2]? = none := Array.getElem?_eq_none hle
      unfold Lib.TabIs World.var? at h1
      rw [pow10_g] at h1
      simp only [Option.bind_some, e] at h1
      cases h1
    exact var?_below hb pow10_g lt h1
  · have lt : 3 < w.heap.size := by
      apply Nat.lt_of_not_le
      intro hle
      have e : w.heap[3]? = none := Array.getElem?_eq_none hle
      have := h2 j hj
      simp only [World.cell?, e] at this
      cases this
    rw [hb.cell lt]
    exact h2 j hj
theorem Tabs.drewN {w : World} (h : Tabs w) (n : Nat) : Tabs (w.drewN n) := h.below (Go.below_drewN (Below.refl _ _) n)
theorem ret_s {a b : List UInt8} (h : a = b) : Ending.returned (.string ⟨a.toArray⟩) = .returned (.string ⟨b.toArray⟩) := by rw [h]
theorem ret_ib {k : IntKind} {a a' : Int} {b b' : Bool} (h : a = a') (g : b = b') : Ending.returned (.tuple #[.int k a, .bool b]) = .returned (.tuple #[.int k a', .bool b']) := by rw [h, g]
theorem int_eq {k : IntKind} {a b : Int} (h : a = b) : Value.int k a = Value.int k b := by rw [h]
theorem take_snoc (s : ByteArray) (k : Nat) (h : k < s.size) : s.data.toList.take (k + 1) = s.data.toList.take k ++ [s[k]] := by
  rw [List.take_succ_eq_append_getElem (by simpa using h)]; rfl
theorem take_all (s : ByteArray) (k : Nat) (h : ¬ k < s.size) : s.data.toList.take k = s.data.toList := List.take_of_length_le (by simp; omega)
theorem size_list (s : ByteArray) : s.data.toList.length = s.size := by simp
end Go.Proofs.YtgkakflnmpoadaaGreatDoor.W.Nu.Q
/- Contracts of the library, in the words of the texts on numbers: decimal digits, beginnings of strings, a digit's place, lengths in bits. -/
namespace Go.Proofs.YtgkakflnmpoadaaGreatDoor.W.Nu.Q
open Go.ChangeShapes Go.WideShapes Go.RowKit

theorem grow_below (w : World) (k : Nat) (os : Array Obj) : Below w.heap.size w (Sort.grow (w.drewN k) os) :=
  ⟨rfl, rfl, rfl, by simp [Sort.grow], fun i hi => by
    simp only [Sort.grow, World.drewN]
    rw [Array.getElem?_append_left hi]⟩
theorem formatInt_c (i : Int) (h0 : -9223372036854775808 ≤ i) (h1 : i ≤ 9223372036854775807) (w : World) (ht : Tabs w) :
    Calls Tryz.prog 120 #[.int .i64 i, .int .i64 10] w fun e w' => e = .returned (.string ⟨(intT i).toArray⟩) ∧ Below w.heap.size w w' := by
  refine (Tryz.strconv_FormatInt_10 i h0 h1 w ht.1).mono ?_
  rintro e w' ⟨rfl, k, os, rfl⟩
  exact ⟨by rw [itoa_intT], grow_below _ _ _⟩
theorem itoa_c (i : Int) (h0 : -9223372036854775808 ≤ i) (h1 : i ≤ 9223372036854775807) (w : World) (ht : Tabs w) :
    Calls Tryz.prog 192 #[.int .i64 i] w fun e w' => e = .returned (.string ⟨(intT i).toArray⟩) ∧ Below w.heap.size w w' := by
  refine (Tryz.strconv_Itoa i h0 h1 w ht.1).mono ?_
  rintro e w' ⟨rfl, k, os, rfl⟩
  exact ⟨by rw [itoa_intT], grow_below _ _ _⟩
theorem hasPrefix_c (s p : ByteArray) (w : World) :
    Calls Tryz.prog 176 #[.string s, .string p] w fun e w' => e = .returned (.bool (Lib.hasPrefix s.data.toList p.data.toList)) ∧ w' = w := Tryz.strings_HasPrefix s p w
theorem trimPrefix_c (s p : ByteArray) (w : World) :
    Calls Tryz.prog 177 #[.string s, .string p] w fun e w' => e = .returned (.string ⟨(Lib.trimPrefix s.data.toList p.data.toList).toArray⟩) ∧ w' = w := Tryz.strings_TrimPrefix s p w
theorem cutPrefix_c (s p : ByteArray) (w : World) :
    Calls Tryz.prog 222 #[.string s, .string p] w fun e w' => e = .returned (.tuple #[.string ⟨(Lib.trimPrefix s.data.toList p.data.toList).toArray⟩, .bool (Lib.hasPrefix s.data.toList p.data.toList)]) ∧ w' = w := Tryz.strings_CutPrefix s p w
theorem indexHex_c (c : UInt8) (w : World) :
    Calls Tryz.prog 293 #[.string ⟨#[48, 49, 50, 51, 52, 53, 54, 55, 56, 57, 97, 98, 99, 100, 101, 102]⟩, .int .u8 c.toNat] w fun e w' => e = .returned (.int .i64 (hexV c)) ∧ w' = w := by
  have h := Tryz.strings_IndexByte ⟨#[48, 49, 50, 51, 52, 53, 54, 55, 56, 57, 97, 98, 99, 100, 101, 102]⟩ (c.toNat : Int) w
  have e : Lib.indexByte (⟨#[48, 49, 50, 51, 52, 53, 54, 55, 56, 57, 97, 98, 99, 100, 101, 102]⟩ : ByteArray).data.toList ((c.toNat : Int).toNat.toUInt8) = hexV c := by
    have e1 : ((c.toNat : Int).toNat.toUInt8) = c := by simp
    rw [e1]
    exact index_hex c
  rw [e] at h
  exact h
theorem len64_c (x : Int) (h0 : 0 < x) (h1 : x < 18446744073709551616) (w : World) :
    Calls Tryz.prog 191 #[.int .u64 x] w fun e w' => e = .returned (.int .i64 (x.toNat.log2 + 1)) ∧ w' = w := by
  refine (Tryz.bits_Len64 x w (by omega) (by omega)).mono ?_
  rintro e w' ⟨rfl, rfl⟩
  exact ⟨by rw [bitLen_log _ (by omega) (by omega)]; rfl, rfl⟩
theorem ctz_c (x : Int) (h0 : 0 < x) (h1 : x < 18446744073709551616) (w : World) (ht : Tabs w) :
    Calls Tryz.prog 265 #[.int .u64 x] w fun e w' => e = .returned (.int .i64 (twos x.toNat)) ∧ w' = w := by
  obtain ⟨n, rfl⟩ := Int.eq_ofNat_of_zero_le (Int.le_of_lt h0)
  refine (Tryz.bits_TrailingZeros64 n (by omega) w (fun _ => ht.2)).mono ?_
  rintro e w' ⟨rfl, rfl⟩
  exact ⟨by rw [ctz_twos _ (by omega) (by omega)]; rfl, rfl⟩
end Go.Proofs.YtgkakflnmpoadaaGreatDoor.W.Nu.Q
/- Contracts of package numtext: decimal digits, whole numbers printed and read. -/
namespace Go.Proofs.YtgkakflnmpoadaaGreatDoor.W.Nu.Q
open Go.ChangeShapes Go.WideShapes Go.RowKit

def allD (l : List UInt8) : Bool := !l.isEmpty && l.all digB
theorem isDecimal_c (c : UInt8) (w : World) :
    Calls Tryz.prog 267 #[.int .u8 c.toNat] w fun e w' => e = .returned (.bool (digB c)) ∧ w' = w := by
  go_enter Tryz.func267, Tryz.ntmps267
  go_wp2
  all_goals (go_ret; refine ⟨ret_bool ?_, rfl⟩; simp only [digB]; rw [Bool.eq_iff_iff]; simp only [decide_eq_true_eq, Bool.false_eq_true, false_iff]; omega)
theorem all_step (s : ByteArray) (k : Nat) (h : k < s.size) (hd : digB s[k] = true) (ha : (s.data.toList.take k).all digB = true) : (s.data.toList.take (k + 1)).all digB = true := by
  rw [take_snoc s k h, List.all_append, ha]
  simp [hd]
theorem all_not (s : ByteArray) (k : Nat) (h : k < s.size) (hd : digB s[k] = false) : allD s.data.toList = false := by
  have e : s.data.toList.all digB = false := by
    rw [List.all_eq_false]
    exact ⟨s[k], by rw [← List.take_append_drop (k + 1) s.data.toList, take_snoc s k h]; simp, by rw [hd]; decide⟩
  unfold allD
  rw [e, Bool.and_false]
theorem toList_eq (s : ByteArray) : s.toList = s.data.toList := ByteArray.toList_eq s
set_option maxHeartbeats 400000 in
theorem allDecimal_c (s : ByteArray) (hs : s.size ≤ maxLen) (w : World) :
    Calls Tryz.prog 223 #[.string s] w fun e w' => e = .returned (.bool (allD s.data.toList)) ∧ w' = w := by
  unfold maxLen at hs
  go_enter Tryz.func223, Tryz.ntmps223
  go_wp2_with fail
  go_loop [6] (fun i => ∃ k : Nat, k ≤ s.size ∧ i = .int .i64 k ∧ (s.data.toList.take k).all digB = true) (fun i => s.size - (intOf i).toNat)
  case atStart => exact ⟨0, Nat.zero_le _, rfl, rfl⟩
  case round =>
    obtain ⟨k, hk, rfl, ha⟩ := hrel
    by_cases hlt : k < s.size
    · cases hd : digB s[k] with
      | true =>
        have R := hid (all_step s k hlt hd ha)
        clear ha
        go_wp2_with (go_at_call 267; refine (isDecimal_c _ _).mono ?_; rintro e w' ⟨rfl, rfl⟩)
        go_round
        case rel => exact ⟨k + 1, hlt, by go_num, R.out⟩
        case measure => simp [intOf]; omega
      | false =>
        have R := hid (all_not s k hlt hd)
        clear ha
        go_wp2_with (go_at_call 267; refine (isDecimal_c _ _).mono ?_; rintro e w' ⟨rfl, rfl⟩)
        go_ret
        exact ⟨ret_bool R.out.symm, rfl⟩
    · rw [take_all s k hlt] at ha
      have R := hid (show allD s.data.toList = !s.toList.isEmpty by unfold allD; rw [ha, toList_eq, Bool.and_true])
      clear ha
      go_wp2_with fail
      go_ret
      exact ⟨ret_bool R.out.symm, rfl⟩

/-! ### a number's digits, counted -/
theorem valD_take (l : List UInt8) (k : Nat) : valD (l.take k) ≤ valD l := by
  have e : valD l = valD (l.take k) * 10 ^ (l.drop k).length + valD (l.drop k) := by
    have : valD l = valD (l.take k ++ l.drop k) := by rw [List.take_append_drop]
    rw [this]
    unfold valD
    rw [List.foldl_append, foldD]
    rfl
  have p : 1 ≤ 10 ^ (l.drop k).length := Nat.one_le_pow _ _ (by decide)
  have : valD (l.take k) * 1 ≤ valD (l.take k) * 10 ^ (l.drop k).length := Nat.mul_le_mul_left _ p
  omega
theorem valD_step (s : ByteArray) (k : Nat) (h : k < s.size) : valD (s.data.toList.take (k + 1)) = 10 * valD (s.data.toList.take k) + (s[k].toNat - 48) := by
  rw [take_snoc s k h, valD_snoc]
theorem dig_at (s : ByteArray) (h : s.data.toList.all digB = true) (k : Nat) (hk : k < s.size) : 48 ≤ s[k].toNat ∧ s[k].toNat ≤ 57 := by
  have := List.all_eq_true.1 h s[k] (by rw [← List.take_append_drop (k + 1) s.data.toList, take_snoc s k hk]; simp)
  exact of_decide_eq_true this
/-- what digits are read as, with a sign ahead or not -/
def limI (m : Bool) : Int := if m = true then 9223372036854775808 else 9223372036854775807
def valI (m : Bool) (d : List UInt8) : Int × Int := if (valD d : Int) ≤ limI m then ((if m = true then -(valD d : Int) else valD d), 0) else (0, 13)
theorem readD_val (m : Bool) (d : List UInt8) (h : formI m d = true) : readD m d = valI m d := by
  unfold readD valI limI
  rw [if_pos h]
  cases m
  · simp only [Bool.false_eq_true, if_false]
    by_cases g : valD d < 9223372036854775808
    · rw [if_pos g, if_pos (by omega)]
    · rw [if_neg g, if_neg (by omega)]
  · simp only [if_true]
    by_cases g : valD d ≤ 9223372036854775808
    · rw [if_pos g, if_pos (by omega)]
    · rw [if_neg g, if_neg (by omega)]
theorem sub48 (c : UInt8) (h : 48 ≤ c.toNat ∧ c.toNat ≤ 57) : IntKind.u64.wrap (IntKind.u8.wrap ((c.toNat : Int) - 48)) = (c.toNat : Int) - 48 := by
  rw [IntKind.wrap_u8, IntKind.wrap_u64]; omega
set_option maxHeartbeats 400000 in
theorem signedValue_c (s : ByteArray) (m : Bool) (hs : s.size ≤ maxLen) (hd : s.data.toList.all digB = true) (w : World) :
    Calls Tryz.prog 224 #[.string s, .bool m] w fun e w' => e = .returned (.tuple #[.int .i64 (valI m s.data.toList).1, .int .i64 (valI m s.data.toList).2]) ∧ w' = w := by
  unfold maxLen at hs
  have HD := hid hd
  clear hd
  cases m with
  | false =>
    go_enter Tryz.func224, Tryz.ntmps224
    go_wp2_with fail
    go_loop [7, 15] (fun v i => ∃ k : Nat, k ≤ s.size ∧ i = .int .i64 k ∧ v = .int .u64 (valD (s.data.toList.take k)) ∧ (valD (s.data.toList.take k) : Int) ≤ 9223372036854775807) (fun _ i => s.size - (intOf i).toNat)
    case atStart => exact ⟨0, Nat.zero_le _, rfl, rfl, by simp [valD]⟩
    case round =>
      obtain ⟨k, hk, rfl, rfl, hv⟩ := hrel
      by_cases hlt : k < s.size
      · obtain ⟨d0, d1⟩ := dig_at s HD.out k hlt
        have st := valD_step s k hlt
        have HT := hid (valD_take s.data.toList (k + 1))
        have e1 := sub48 s[k] ⟨d0, d1⟩
        by_cases hf : (valD (s.data.toList.take (k + 1)) : Int) ≤ 9223372036854775807
        · have HS := hid st
          have e3 : ¬ (9223372036854775807 - ((s[k].toNat : Int) - 48)).tdiv 10 < (valD (s.data.toList.take k) : Int) := by rw [Int.tdiv_eq_ediv_of_nonneg (by omega)]; omega
          have e3' : ¬ (9223372036854775807 - ((s[k].toNat : Int) - 48)) / 10 < (valD (s.data.toList.take k) : Int) := by omega
          have HF := hid hf
          clear st hf
          go_wp2_with fail
          go_round
          case rel => exact ⟨k + 1, hlt, by go_num, int_eq (by have := HS.out; have := HF.out; go_num), HF.out⟩
          case measure => simp [intOf]; omega
        · have e3 : (9223372036854775807 - ((s[k].toNat : Int) - 48)).tdiv 10 < (valD (s.data.toList.take k) : Int) := by rw [Int.tdiv_eq_ediv_of_nonneg (by omega)]; omega
          have e3' : (9223372036854775807 - ((s[k].toNat : Int) - 48)) / 10 < (valD (s.data.toList.take k) : Int) := by omega
          have HF := hid hf
          clear st hf
          go_wp2_with fail
          go_ret2
          have E : valI false s.data.toList = (0, 13) := by
            have := HT.out
            have := HF.out
            unfold valI limI
            rw [if_neg (by simp; omega)]
          exact ⟨ret_ii (by rw [E]) (by rw [E]), rfl⟩
      · rw [take_all s k hlt] at hv ⊢
        have HV := hid hv
        clear hv
        go_wp2_with fail
        go_ret2
        have E : valI false s.data.toList = ((valD s.data.toList : Int), 0) := by
          have := HV.out
          unfold valI limI
          rw [if_pos (by simp; omega)]
          rfl
        have := HV.out
        exact ⟨ret_ii (by rw [E]; simp only [wrap64]; omega) (by rw [E]), rfl⟩
  | true =>
    go_enter Tryz.func224, Tryz.ntmps224
    go_wp2_with fail
    go_loop [7, 15] (fun v i => ∃ k : Nat, k ≤ s.size ∧ i = .int .i64 k ∧ v = .int .u64 (valD (s.data.toList.take k)) ∧ (valD (s.data.toList.take k) : Int) ≤ 9223372036854775808) (fun _ i => s.size - (intOf i).toNat)
    case atStart => exact ⟨0, Nat.zero_le _, rfl, rfl, by simp [valD]⟩
    case round =>
      obtain ⟨k, hk, rfl, rfl, hv⟩ := hrel
      by_cases hlt : k < s.size
      · obtain ⟨d0, d1⟩ := dig_at s HD.out k hlt
        have st := valD_step s k hlt
        have HT := hid (valD_take s.data.toList (k + 1))
        have e1 := sub48 s[k] ⟨d0, d1⟩
        by_cases hf : (valD (s.data.toList.take (k + 1)) : Int) ≤ 9223372036854775808
        · have HS := hid st
          have e3 : ¬ (9223372036854775808 - ((s[k].toNat : Int) - 48)).tdiv 10 < (valD (s.data.toList.take k) : Int) := by rw [Int.tdiv_eq_ediv_of_nonneg (by omega)]; omega
          have e3' : ¬ (9223372036854775808 - ((s[k].toNat : Int) - 48)) / 10 < (valD (s.data.toList.take k) : Int) := by omega
          have HF := hid hf
          clear st hf
          go_wp2_with fail
          go_round
          case rel => exact ⟨k + 1, hlt, by go_num, int_eq (by have := HS.out; have := HF.out; go_num), HF.out⟩
          case measure => simp [intOf]; omega
        · have e3 : (9223372036854775808 - ((s[k].toNat : Int) - 48)).tdiv 10 < (valD (s.data.toList.take k) : Int) := by rw [Int.tdiv_eq_ediv_of_nonneg (by omega)]; omega
          have e3' : (9223372036854775808 - ((s[k].toNat : Int) - 48)) / 10 < (valD (s.data.toList.take k) : Int) := by omega
          have HF := hid hf
          clear st hf
          go_wp2_with fail
          go_ret2
          have E : valI true s.data.toList = (0, 13) := by
            have := HT.out
            have := HF.out
            unfold valI limI
            rw [if_neg (by simp; omega)]
          exact ⟨ret_ii (by rw [E]) (by rw [E]), rfl⟩
      · rw [take_all s k hlt] at hv ⊢
        have HV := hid hv
        clear hv
        go_wp2_with fail
        go_ret2
        have E : valI true s.data.toList = (-(valD s.data.toList : Int), 0) := by
          have := HV.out
          unfold valI limI
          rw [if_pos (by simp; omega)]
          rfl
        have := HV.out
        exact ⟨ret_ii (by rw [E]; simp only [wrap64, IntKind.wrap_u64]; omega) (by rw [E]), rfl⟩

/-! ### whole numbers -/
theorem int_c (i : Int) (h0 : -9223372036854775808 ≤ i) (h1 : i ≤ 9223372036854775807) (w : World) (ht : Tabs w) :
    Calls Tryz.prog 81 #[.int .i64 i] w fun e w' => e = .returned (.string ⟨(intT i).toArray⟩) ∧ Below w.heap.size w w' := by
  go_enter Tryz.func81, Tryz.ntmps81
  go_wp2_with (go_at_call 120; refine (formatInt_c i h0 h1 _ ht).mono ?_; rintro e w' ⟨rfl, hb⟩)
  go_ret
  exact ⟨rfl, hb⟩
/-- the digits behind a sign -/
def rest1 (l : List UInt8) : List UInt8 := match l with | 45 :: d => d | d => d
def minus1 (l : List UInt8) : Bool := match l with | 45 :: _ => true | _ => false
theorem rest_not (l : List UInt8) (h : ∀ d, l = 45 :: d → False) : minus1 l = false ∧ rest1 l = l := by
  unfold minus1 rest1
  constructor
  · split
    · rename_i e; exact (h _ rfl).elim
    · rfl
  · split
    · rename_i e; exact (h _ rfl).elim
    · rfl
theorem readI_rest (l : List UInt8) (h : l.length ≤ 64) : readI l = readD (minus1 l) (rest1 l) := by
  unfold readI
  rw [if_neg (by omega)]
  split
  · rfl
  · rename_i hn
    obtain ⟨e1, e2⟩ := rest_not l hn
    rw [e1, e2]
theorem form_rest (l : List UInt8) : formI (minus1 l) (rest1 l) = (allD (rest1 l) && !((rest1 l).head? == some 48 && !(l == [48]))) := by
  unfold formI allD
  congr 2
  cases l with
  | nil => rfl
  | cons c r =>
    by_cases h : c = 45
    · subst h
      have e : ((45 :: r : List UInt8) == [48]) = false := by rw [beq_eq_false_iff_ne]; intro e; injection e with e1 e2; revert e1; decide
      show (r.head? == some 48 && (decide (1 < r.length) || true)) = _
      rw [e, Bool.or_true]
      rfl
    · have e1 : rest1 (c :: r) = c :: r := by
        unfold rest1
        split
        · rename_i e1; injection e1 with e2 e3; exact absurd e2 h
        · rfl
      have e2 : minus1 (c :: r) = false := by
        unfold minus1
        split
        · rename_i e1; injection e1 with e2 e3; exact absurd e2 h
        · rfl
      rw [e1, e2, Bool.or_false]
      cases hc : ((c :: r).head? == some 48) with
      | false => rfl
      | true =>
        simp only [List.head?_cons] at hc
        have : c = 48 := by simpa using hc
        subst this
        cases r with
        | nil => rfl
        | cons d r => simp
theorem rest_len (l : List UInt8) : (rest1 l).length ≤ l.length := by
  unfold rest1
  split <;> simp
theorem cutMinus_c (s : ByteArray) (w : World) :
    Calls Tryz.prog 222 #[.string s, .string ⟨#[45]⟩] w fun e w' => e = .returned (.tuple #[.string ⟨(rest1 s.data.toList).toArray⟩, .bool (minus1 s.data.toList)]) ∧ w' = w := by
  obtain ⟨p1, p2⟩ := prefix_minus s.data.toList
  have h := cutPrefix_c s ⟨#[45]⟩ w
  have e1 : Lib.hasPrefix s.data.toList (⟨#[45]⟩ : ByteArray).data.toList = minus1 s.data.toList := p1
  have e2 : Lib.trimPrefix s.data.toList (⟨#[45]⟩ : ByteArray).data.toList = rest1 s.data.toList := p2
  rw [e1, e2] at h
  exact h
theorem head_at (D : ByteArray) (h : 0 < D.size) : (D.data.toList.head? == some 48) = ((D[0].toNat : Int) == 48) := by
  obtain ⟨⟨l⟩⟩ := D
  cases l with
  | nil => exact absurd h (by decide)
  | cons c r =>
    show (some c == some 48) = ((c.toNat : Int) == 48)
    rw [Bool.eq_iff_iff, beq_iff_eq, beq_iff_eq]
    constructor
    · intro e; injection e with e; subst e; rfl
    · intro e
      congr 1
      apply UInt8.toNat_inj.1
      have : c.toNat = 48 := by omega
      rw [this]; rfl
set_option maxHeartbeats 400000 in
theorem parseInt_core (s D : ByteArray) (m : Bool) (x e : Int) (w : World) (h64 : s.size ≤ 64) (hD : D.size ≤ 64)
    (hcut : ∀ w, Calls Tryz.prog 222 #[.string s, .string ⟨#[45]⟩] w fun e w' => e = .returned (.tuple #[.string D, .bool m]) ∧ w' = w)
    (hR : (allD D.data.toList = false ∧ x = 0 ∧ e = 20) ∨ (allD D.data.toList = true ∧ 0 < D.size ∧ ((∃ h : 0 < D.size, ((D[0].toNat : Int) == 48) = true) ∧ (s.toList == [48]) = false ∧ x = 0 ∧ e = 20 ∨
      ((∃ h : 0 < D.size, ((D[0].toNat : Int) == 48) = false) ∨ (∃ h : 0 < D.size, ((D[0].toNat : Int) == 48) = true) ∧ (s.toList == [48]) = true) ∧ x = (valI m D.data.toList).1 ∧ e = (valI m D.data.toList).2))) :
    Calls Tryz.prog 179 #[.string s] w fun r w' => r = .returned (.tuple #[.int .i64 x, .int .i64 e]) ∧ w' = w := by
  have ml : D.size ≤ maxLen := by unfold maxLen; omega
  rcases hR with ⟨h1, rfl, rfl⟩ | ⟨h1, hp, ⟨⟨_, h2⟩, h3, rfl, rfl⟩ | ⟨⟨_, h2⟩ | ⟨⟨_, h2⟩, h3⟩, rfl, rfl⟩⟩
  · go_enter Tryz.func179, Tryz.ntmps179
    go_wp2_with (first | (go_at_call 222; refine (hcut _).mono ?_; rintro e w' ⟨rfl, rfl⟩) | (go_at_call 223; refine (allDecimal_c _ ml _).mono ?_; rintro e w' ⟨rfl, rfl⟩))
    go_ret2
    exact ⟨rfl, rfl⟩
  · go_enter Tryz.func179, Tryz.ntmps179
    go_wp2_with (first | (go_at_call 222; refine (hcut _).mono ?_; rintro e w' ⟨rfl, rfl⟩) | (go_at_call 223; refine (allDecimal_c _ ml _).mono ?_; rintro e w' ⟨rfl, rfl⟩))
    go_ret2
    exact ⟨rfl, rfl⟩
  · have hd : D.data.toList.all digB = true := by unfold allD at h1; rw [Bool.and_eq_true] at h1; exact h1.2
    have c := signedValue_c D m ml hd
    clear hd
    go_enter Tryz.func179, Tryz.ntmps179
    go_wp2_with (first | (go_at_call 222; refine (hcut _).mono ?_; rintro e w' ⟨rfl, rfl⟩) | (go_at_call 223; refine (allDecimal_c _ ml _).mono ?_; rintro e w' ⟨rfl, rfl⟩) | (go_at_call 224; refine (c _).mono ?_; rintro e w' ⟨rfl, rfl⟩))
    go_ret2
    exact ⟨rfl, rfl⟩
  · have hd : D.data.toList.all digB = true := by unfold allD at h1; rw [Bool.and_eq_true] at h1; exact h1.2
    have c := signedValue_c D m ml hd
    clear hd
    go_enter Tryz.func179, Tryz.ntmps179
    go_wp2_with (first | (go_at_call 222; refine (hcut _).mono ?_; rintro e w' ⟨rfl, rfl⟩) | (go_at_call 223; refine (allDecimal_c _ ml _).mono ?_; rintro e w' ⟨rfl, rfl⟩) | (go_at_call 224; refine (c _).mono ?_; rintro e w' ⟨rfl, rfl⟩))
    go_ret2
    exact ⟨rfl, rfl⟩
set_option maxHeartbeats 400000 in
theorem parseInt_c (s : ByteArray) (hs : s.size ≤ maxLen) (w : World) :
    Calls Tryz.prog 179 #[.string s] w fun e w' => e = .returned (.tuple #[.int .i64 (readI s.data.toList).1, .int .i64 (readI s.data.toList).2]) ∧ w' = w := by
  unfold maxLen at hs
  have sl := size_list s
  by_cases c : s.size ≤ 64
  · have er := readI_rest s.data.toList (by omega)
    have ef := form_rest s.data.toList
    have rl := rest_len s.data.toList
    have hc := cutMinus_c s
    obtain ⟨D, hD⟩ : ∃ D : ByteArray, D = ⟨(rest1 s.data.toList).toArray⟩ := ⟨_, rfl⟩
    have hDl : D.data.toList = rest1 s.data.toList := by rw [hD]
    have hDs := size_list D
    rw [← hD] at hc
    rw [← hDl] at ef er rl
    refine parseInt_core s D _ _ _ w c (by omega) hc ?_
    rw [er]
    cases ha : allD D.data.toList with
    | false =>
      rw [ha, Bool.false_and] at ef
      unfold readD
      rw [if_neg (by rw [ef]; decide)]
      exact Or.inl ⟨rfl, rfl, rfl⟩
    | true =>
      have hp : 0 < D.size := by
        unfold allD at ha
        rw [Bool.and_eq_true] at ha
        have : D.data.toList ≠ [] := by simpa using ha.1
        have := List.length_pos_iff.2 this
        omega
      rw [ha, Bool.true_and, head_at D hp] at ef
      have es : (s.toList == [48]) = (s.data.toList == [48]) := by rw [toList_eq]
      refine Or.inr ⟨rfl, hp, ?_⟩
      rw [es]
      cases hh : ((D[0].toNat : Int) == 48) with
      | false =>
        rw [hh] at ef
        rw [readD_val _ _ ef]
        exact Or.inr ⟨Or.inl ⟨hp, hh⟩, rfl, rfl⟩
      | true =>
        cases h0 : (s.data.toList == [48]) with
        | true =>
          rw [hh, h0] at ef
          rw [readD_val _ _ ef]
          exact Or.inr ⟨Or.inr ⟨⟨hp, hh⟩, rfl⟩, rfl, rfl⟩
        | false =>
          rw [hh, h0] at ef
          unfold readD
          rw [if_neg (by rw [ef]; decide)]
          exact Or.inl ⟨⟨hp, hh⟩, rfl, rfl, rfl⟩
  · have E : readI s.data.toList = (0, 2) := by unfold readI; rw [if_pos (by omega)]
    have H := hid E
    clear E
    go_enter Tryz.func179, Tryz.ntmps179
    go_wp2_with fail
    go_ret2
    exact ⟨ret_ii (by rw [H.out]) (by rw [H.out]), rfl⟩
end Go.Proofs.YtgkakflnmpoadaaGreatDoor.W.Nu.Q
/- Contracts of package numtext: the power behind the digits; names instead of digits. -/
namespace Go.Proofs.YtgkakflnmpoadaaGreatDoor.W.Nu.Q
open Go.ChangeShapes Go.WideShapes Go.RowKit

theorem prefix_two (l : List UInt8) (a b : UInt8) : (Lib.hasPrefix l [a, b] = true ∧ l = a :: b :: Lib.trimPrefix l [a, b]) ∨ (Lib.hasPrefix l [a, b] = false ∧ Lib.trimPrefix l [a, b] = l ∧ ∀ r, l ≠ a :: b :: r) := by
  unfold Lib.trimPrefix Lib.hasPrefix
  by_cases h : ∃ r, l = a :: b :: r
  · obtain ⟨r, rfl⟩ := h
    refine Or.inl ⟨by simp [List.isPrefixOf], ?_⟩
    simp [List.isPrefixOf]
  · refine Or.inr ?_
    have e : List.isPrefixOf [a, b] l = false := by
      rw [Bool.eq_false_iff]
      intro e
      rw [List.isPrefixOf_iff_prefix] at e
      obtain ⟨r, hr⟩ := e
      exact h ⟨r, hr.symm⟩
    rw [e]
    exact ⟨rfl, rfl, fun r hr => h ⟨r, hr⟩⟩
/-- the power that a text from its p on says; or none -/
def powR (r : List UInt8) : Option Int :=
  match r with
  | 112 :: sg :: ds => if (sg = 43 ∨ sg = 45) ∧ ds ≠ [] ∧ ds.length ≤ 5 ∧ ds.all digB = true then some (if sg = 45 then -(valD ds : Int) else valD ds) else none
  | _ => none
theorem readPow_powR (N b : Nat) (r : List UInt8) : readPow N b r = (powR r).map fun p => (N, p - 4 * (b : Int)) := by
  unfold readPow powR
  split
  · rename_i sg ds
    by_cases h : (sg = 43 ∨ sg = 45) ∧ ds ≠ [] ∧ ds.length ≤ 5 ∧ ds.all digB = true
    · simp only [if_pos h]; rfl
    · simp only [if_neg h]; rfl
  · rename_i hn
    first
    | rfl
    | (split
       · exact (hn _ _ rfl).elim
       · rfl)
theorem powR_ok (sg : UInt8) (ds : List UInt8) (h1 : sg = 43 ∨ sg = 45) : powR (112 :: sg :: ds) = if allD ds = true ∧ ds.length ≤ 5 then some (if sg = 45 then -(valD ds : Int) else valD ds) else none := by
  unfold powR allD
  have e : ((sg = 43 ∨ sg = 45) ∧ ds ≠ [] ∧ ds.length ≤ 5 ∧ ds.all digB = true) ↔ ((!ds.isEmpty && ds.all digB) = true ∧ ds.length ≤ 5) := by
    rw [Bool.and_eq_true]
    constructor
    · rintro ⟨-, a, b, c⟩
      exact ⟨⟨by simpa using a, c⟩, b⟩
    · rintro ⟨⟨a, c⟩, b⟩
      exact ⟨h1, by simpa using a, b, c⟩
  by_cases h : (sg = 43 ∨ sg = 45) ∧ ds ≠ [] ∧ ds.length ≤ 5 ∧ ds.all digB = true
  · simp only [if_pos h, if_pos (e.1 h)]
  · simp only [if_neg h, if_neg (fun g => h (e.2 g))]
theorem powR_no (r : List UInt8) (h1 : ∀ d, r ≠ 112 :: 43 :: d) (h2 : ∀ d, r ≠ 112 :: 45 :: d) : powR r = none := by
  unfold powR
  split
  · rename_i sg ds
    rw [if_neg]
    rintro ⟨e | e, -⟩
    · exact h1 ds (by rw [e])
    · exact h2 ds (by rw [e])
  · rfl
theorem valD_small (s : ByteArray) (h : s.data.toList.all digB = true) (hs : s.size ≤ 5) (k : Nat) : valD (s.data.toList.take k) < 100000 := by
  have h1 := valD_take s.data.toList k
  have h2 := valD_le s.data.toList (fun c hc => of_decide_eq_true (List.all_eq_true.1 h c hc))
  have h3 : 10 ^ s.data.toList.length ≤ 10 ^ 5 := Nat.pow_le_pow_right (by decide) (by rw [size_list]; omega)
  have h4 : (10 : Nat) ^ 5 = 100000 := by decide
  omega
theorem sub48i (c : UInt8) (h : 48 ≤ c.toNat ∧ c.toNat ≤ 57) : IntKind.i64.wrap (IntKind.u8.wrap ((c.toNat : Int) - 48)) = (c.toNat : Int) - 48 := by
  rw [IntKind.wrap_u8, IntKind.wrap_i64]; omega
/-- what is answered of the digits behind p and a sign -/
def powAns (m : Bool) (l : List UInt8) : Value := if allD l = true ∧ l.length ≤ 5 then .tuple #[.int .i64 (if m = true then -(valD l : Int) else valD l), .bool true] else .tuple #[.int .i64 0, .bool false]
theorem powAns_no (m : Bool) (l : List UInt8) (h : ¬ (allD l = true ∧ l.length ≤ 5)) : powAns m l = .tuple #[.int .i64 0, .bool false] := by unfold powAns; rw [if_neg h]
theorem powAns_yes (m : Bool) (l : List UInt8) (h : allD l = true ∧ l.length ≤ 5) : powAns m l = .tuple #[.int .i64 (if m = true then -(valD l : Int) else valD l), .bool true] := by unfold powAns; rw [if_pos h]
set_option maxHeartbeats 400000 in
theorem readPower_plus (s D : ByteArray) (w : World) (hD : D.size ≤ maxLen)
    (c1 : ∀ w, Calls Tryz.prog 222 #[.string s, .string ⟨#[112, 43]⟩] w fun e w' => e = .returned (.tuple #[.string D, .bool true]) ∧ w' = w) :
    Calls Tryz.prog 264 #[.string s] w fun e w' => e = .returned (powAns false D.data.toList) ∧ w' = w := by
  have sz := size_list D
  by_cases h5 : D.size ≤ 5
  · cases ha : allD D.data.toList with
    | false =>
      have H := hid (powAns_no false D.data.toList (by rw [ha]; rintro ⟨h, -⟩; cases h))
      go_enter Tryz.func264, Tryz.ntmps264
      go_wp2_with (first | (go_at_call 222; (with_reducible refine (c1 _).mono ?_); rintro e w' ⟨rfl, rfl⟩) | (go_at_call 223; (with_reducible refine (allDecimal_c _ hD _).mono ?_); rintro e w' ⟨rfl, rfl⟩))
      go_ret2
      exact ⟨by rw [H.out]; rfl, rfl⟩
    | true =>
      have hd : D.data.toList.all digB = true := by unfold allD at ha; rw [Bool.and_eq_true] at ha; exact ha.2
      have HD := hid hd
      have H := hid (powAns_yes false D.data.toList ⟨ha, by omega⟩)
      clear hd
      go_enter Tryz.func264, Tryz.ntmps264
      go_wp2_with (first | (go_at_call 222; (with_reducible refine (c1 _).mono ?_); rintro e w' ⟨rfl, rfl⟩) | (go_at_call 223; (with_reducible refine (allDecimal_c _ hD _).mono ?_); rintro e w' ⟨rfl, rfl⟩))
      go_loop [7, 33] (fun v i => ∃ k : Nat, k ≤ D.size ∧ i = .int .i64 k ∧ v = .int .i64 (valD (D.data.toList.take k))) (fun _ i => D.size - (intOf i).toNat)
      case atStart => exact ⟨0, Nat.zero_le _, rfl, rfl⟩
      case round =>
        obtain ⟨k, hk, rfl, rfl⟩ := hrel
        by_cases hlt : k < D.size
        · obtain ⟨d0, d1⟩ := dig_at D HD.out k hlt
          have HS := hid (valD_step D k hlt)
          have e1 := sub48i D[k] ⟨d0, d1⟩
          have hv := valD_small D HD.out h5 k
          go_wp2_with fail
          go_round
          case rel => exact ⟨k + 1, hlt, by go_num, int_eq (by have := HS.out; go_num)⟩
          case measure => simp [intOf]; omega
        · have hv := valD_small D HD.out h5 k
          rw [take_all D k hlt] at hv ⊢
          go_wp2_with fail
          go_ret2
          refine ⟨?_, rfl⟩
          rw [H.out]
          exact ret_ib (by rw [if_neg (by decide)]) rfl
  · go_enter Tryz.func264, Tryz.ntmps264
    have H := hid (powAns_no false D.data.toList (by rintro ⟨-, h⟩; omega))
    go_wp2_with (first | (go_at_call 222; (with_reducible refine (c1 _).mono ?_); rintro e w' ⟨rfl, rfl⟩) | (go_at_call 223; (with_reducible refine (allDecimal_c _ hD _).mono ?_); rintro e w' ⟨rfl, rfl⟩))
    go_ret2
    exact ⟨by rw [H.out]; rfl, rfl⟩
set_option maxHeartbeats 400000 in
theorem readPower_minus (s D D0 : ByteArray) (w : World) (hD : D.size ≤ maxLen)
    (c1 : ∀ w, Calls Tryz.prog 222 #[.string s, .string ⟨#[112, 43]⟩] w fun e w' => e = .returned (.tuple #[.string D0, .bool false]) ∧ w' = w)
    (c2 : ∀ w, Calls Tryz.prog 222 #[.string s, .string ⟨#[112, 45]⟩] w fun e w' => e = .returned (.tuple #[.string D, .bool true]) ∧ w' = w) :
    Calls Tryz.prog 264 #[.string s] w fun e w' => e = .returned (powAns true D.data.toList) ∧ w' = w := by
  have sz := size_list D
  by_cases h5 : D.size ≤ 5
  · cases ha : allD D.data.toList with
    | false =>
      have H := hid (powAns_no true D.data.toList (by rw [ha]; rintro ⟨h, -⟩; cases h))
      go_enter Tryz.func264, Tryz.ntmps264
      go_wp2_with (first | (go_at_call 222; (first | (with_reducible refine (c1 _).mono ?_) | (with_reducible refine (c2 _).mono ?_)); rintro e w' ⟨rfl, rfl⟩) | (go_at_call 223; (with_reducible refine (allDecimal_c _ hD _).mono ?_); rintro e w' ⟨rfl, rfl⟩))
      go_ret2
      exact ⟨by rw [H.out]; rfl, rfl⟩
    | true =>
      have hd : D.data.toList.all digB = true := by unfold allD at ha; rw [Bool.and_eq_true] at ha; exact ha.2
      have HD := hid hd
      have H := hid (powAns_yes true D.data.toList ⟨ha, by omega⟩)
      clear hd
      go_enter Tryz.func264, Tryz.ntmps264
      go_wp2_with (first | (go_at_call 222; (first | (with_reducible refine (c1 _).mono ?_) | (with_reducible refine (c2 _).mono ?_)); rintro e w' ⟨rfl, rfl⟩) | (go_at_call 223; (with_reducible refine (allDecimal_c _ hD _).mono ?_); rintro e w' ⟨rfl, rfl⟩))
      go_loop [7, 33] (fun v i => ∃ k : Nat, k ≤ D.size ∧ i = .int .i64 k ∧ v = .int .i64 (valD (D.data.toList.take k))) (fun _ i => D.size - (intOf i).toNat)
      case atStart => exact ⟨0, Nat.zero_le _, rfl, rfl⟩
      case round =>
        obtain ⟨k, hk, rfl, rfl⟩ := hrel
        by_cases hlt : k < D.size
        · obtain ⟨d0, d1⟩ := dig_at D HD.out k hlt
          have HS := hid (valD_step D k hlt)
          have e1 := sub48i D[k] ⟨d0, d1⟩
          have hv := valD_small D HD.out h5 k
          go_wp2_with fail
          go_round
          case rel => exact ⟨k + 1, hlt, by go_num, int_eq (by have := HS.out; go_num)⟩
          case measure => simp [intOf]; omega
        · have hv := valD_small D HD.out h5 k
          rw [take_all D k hlt] at hv ⊢
          go_wp2_with fail
          go_ret2
          refine ⟨?_, rfl⟩
          rw [H.out]
          exact ret_ib (by rw [if_pos trivial]) rfl
  · go_enter Tryz.func264, Tryz.ntmps264
    have H := hid (powAns_no true D.data.toList (by rintro ⟨-, h⟩; omega))
    go_wp2_with (first | (go_at_call 222; (first | (with_reducible refine (c1 _).mono ?_) | (with_reducible refine (c2 _).mono ?_)); rintro e w' ⟨rfl, rfl⟩) | (go_at_call 223; (with_reducible refine (allDecimal_c _ hD _).mono ?_); rintro e w' ⟨rfl, rfl⟩))
    go_ret2
    exact ⟨by rw [H.out]; rfl, rfl⟩
set_option maxHeartbeats 400000 in
theorem readPower_none (s D0 D1 : ByteArray) (w : World)
    (c1 : ∀ w, Calls Tryz.prog 222 #[.string s, .string ⟨#[112, 43]⟩] w fun e w' => e = .returned (.tuple #[.string D0, .bool false]) ∧ w' = w)
    (c2 : ∀ w, Calls Tryz.prog 222 #[.string s, .string ⟨#[112, 45]⟩] w fun e w' => e = .returned (.tuple #[.string D1, .bool false]) ∧ w' = w) :
    Calls Tryz.prog 264 #[.string s] w fun e w' => e = .returned (.tuple #[.int .i64 0, .bool false]) ∧ w' = w := by
  go_enter Tryz.func264, Tryz.ntmps264
  go_wp2_with (go_at_call 222; (first | (with_reducible refine (c1 _).mono ?_) | (with_reducible refine (c2 _).mono ?_)); rintro e w' ⟨rfl, rfl⟩)
  go_ret2
  exact ⟨rfl, rfl⟩
theorem readPower_c (s : ByteArray) (hs : s.size ≤ maxLen) (w : World) :
    Calls Tryz.prog 264 #[.string s] w fun e w' => e = .returned (.tuple #[.int .i64 ((powR s.data.toList).getD 0), .bool (powR s.data.toList).isSome]) ∧ w' = w := by
  have k1 := fun w => cutPrefix_c s ⟨#[112, 43]⟩ w
  have k2 := fun w => cutPrefix_c s ⟨#[112, 45]⟩ w
  have sz := size_list s
  rcases prefix_two s.data.toList 112 43 with ⟨h1, h2⟩ | ⟨h1, h2, h3⟩
  · have e1 : Lib.hasPrefix s.data.toList (⟨#[112, 43]⟩ : ByteArray).data.toList = true := h1
    generalize hd : Lib.trimPrefix s.data.toList [112, 43] = d at h2
    have e2 : Lib.trimPrefix s.data.toList (⟨#[112, 43]⟩ : ByteArray).data.toList = d := hd
    rw [e1, e2] at k1
    have hsz : (⟨d.toArray⟩ : ByteArray).size = d.length := by rw [← size_list]
    refine (readPower_plus s ⟨d.toArray⟩ w (by rw [hsz]; rw [h2] at sz; simp at sz; omega) k1).mono ?_
    rintro e w' ⟨rfl, rfl⟩
    refine ⟨?_, rfl⟩
    rw [h2, powR_ok 43 d (Or.inl rfl)]
    show Ending.returned (powAns false d) = _
    by_cases g : allD d = true ∧ d.length ≤ 5
    · rw [powAns_yes _ _ g, if_pos g]; rfl
    · rw [powAns_no _ _ g, if_neg g]; rfl
  · have e1 : Lib.hasPrefix s.data.toList (⟨#[112, 43]⟩ : ByteArray).data.toList = false := h1
    rw [e1] at k1
    rcases prefix_two s.data.toList 112 45 with ⟨g1, g2⟩ | ⟨g1, g2, g3⟩
    · have e1 : Lib.hasPrefix s.data.toList (⟨#[112, 45]⟩ : ByteArray).data.toList = true := g1
      generalize hd : Lib.trimPrefix s.data.toList [112, 45] = d at g2
      have e2 : Lib.trimPrefix s.data.toList (⟨#[112, 45]⟩ : ByteArray).data.toList = d := hd
      rw [e1, e2] at k2
      have hsz : (⟨d.toArray⟩ : ByteArray).size = d.length := by rw [← size_list]
      refine (readPower_minus s ⟨d.toArray⟩ _ w (by rw [hsz]; rw [g2] at sz; simp at sz; omega) k1 k2).mono ?_
      rintro e w' ⟨rfl, rfl⟩
      refine ⟨?_, rfl⟩
      rw [g2, powR_ok 45 d (Or.inr rfl)]
      show Ending.returned (powAns true d) = _
      by_cases g : allD d = true ∧ d.length ≤ 5
      · rw [powAns_yes _ _ g, if_pos g]; rfl
      · rw [powAns_no _ _ g, if_neg g]; rfl
    · have e1 : Lib.hasPrefix s.data.toList (⟨#[112, 45]⟩ : ByteArray).data.toList = false := g1
      rw [e1] at k2
      refine (readPower_none s _ _ w k1 k2).mono ?_
      rintro e w' ⟨rfl, rfl⟩
      refine ⟨?_, rfl⟩
      rw [powR_no _ h3 g3]; rfl
end Go.Proofs.YtgkakflnmpoadaaGreatDoor.W.Nu.Q
/- Contracts of package numtext: a digit set behind a value; hexadecimal digits read one by one. -/
namespace Go.Proofs.YtgkakflnmpoadaaGreatDoor.W.Nu.Q
open Go.ChangeShapes Go.WideShapes Go.RowKit

/-- one cell of a block, written -/
theorem set_at {w : World} {b k : Nat} {c : Array Value} (f : ∀ i, w.cell? ⟨b, i, none⟩ = c[i]?) (x : Value) (hk : k < c.size) (j : Nat) : (w.setCell ⟨b, k, none⟩ x).cell? ⟨b, j, none⟩ = (c.set k x hk)[j]? := by
  by_cases h : k = j
  · subst h
    have s0 : w.cell? ⟨b, k, none⟩ = some c[k] := by rw [f k, Array.getElem?_eq_getElem hk]
    rw [World.cell?_setCell_same (h := s0), Array.getElem?_set_self]
  · rw [World.cell?_setCell_other (h := by intro e; injection e with e1 e2; exact h e2), f j, Array.getElem?_set_ne _ h]
theorem or_digit (a d k : Nat) (hk : 4 ≤ k) (hd : d < 16) (ha : a % 2 ^ k = 0) (h : a < 18446744073709551616) : bits .or .u64 (a : Int) (d : Int) = ((a + d : Nat) : Int) := by
  have p : 2 ^ 4 ≤ 2 ^ k := Nat.pow_le_pow_right (by decide) hk
  rw [u64_or_nat _ _ (by omega) (by omega), nat_join k a d ha (by omega)]
set_option maxHeartbeats 400000 in
theorem push_core (b : Nat) (v z d p sh v1 v2 : Int) (wd : Bool) (w : World) (hcell : ∀ i, w.cell? ⟨b, i, none⟩ = #[Value.int .u64 v, .int .i64 p, .bool wd][i]?) (hfz : ∀ i, w.frozen? ⟨b, i, none⟩ = false)
    (z0 : 0 ≤ z) (z1 : z ≤ 100) (hsh : 4 * (z + 1) = sh) (hv0 : 0 ≤ v) (hv1 : v < 18446744073709551616) (h1 : IntKind.u64.wrap (v * 2 ^ sh.toNat) = v1) (h2 : bits .or .u64 v1 d = v2) (hw : v = 0 ∨ (0 < v ∧ (v.toNat.log2 : Int) + 1 + sh ≤ 64)) :
    Calls Tryz.prog 294 #[.pointer (some ⟨b, 0, none⟩), .int .i64 z, .int .u64 d] w fun e w' => e = .returned (.tuple #[]) ∧ w' = w.setCell ⟨b, 0, none⟩ (.int .u64 v2) := by
  have c0 := hcell 0
  have f0 := hfz 0
  simp at c0
  have e1 : IntKind.i64.wrap (4 * (z + 1)) = sh := by rw [IntKind.wrap_i64]; omega
  have s0 : ¬ sh < 0 := by omega
  rcases hw with h | ⟨hv, hl⟩
  · subst h
    rw [Int.zero_mul] at h1
    have e0 : v1 = 0 := by rw [← h1]; rfl
    subst e0
    clear h1
    go_enter Tryz.func294, Tryz.ntmps294
    go_wp2_with fail
    go_end0
    exact ⟨rfl, rfl⟩
  · have c := len64_c v hv hv1
    have n0 : ¬ v = 0 := by omega
    have n1 : ¬ 64 < (v.toNat.log2 : Int) + 1 + sh := by omega
    have n2 : IntKind.i64.wrap ((v.toNat.log2 : Int) + 1 + sh) = (v.toNat.log2 : Int) + 1 + sh := by rw [IntKind.wrap_i64]; omega
    have n3 : min sh.toNat 64 = sh.toNat := by omega
    generalize (v.toNat.log2 : Int) = g at *
    clear hl hv
    go_enter Tryz.func294, Tryz.ntmps294
    go_wp2_with (go_at_call 191; refine (c _).mono ?_; rintro e w' ⟨rfl, rfl⟩)
    go_end0
    exact ⟨rfl, rfl⟩
set_option maxHeartbeats 400000 in
theorem push_over (b : Nat) (v z d p sh : Int) (wd : Bool) (w : World) (hcell : ∀ i, w.cell? ⟨b, i, none⟩ = #[Value.int .u64 v, .int .i64 p, .bool wd][i]?) (hfz : ∀ i, w.frozen? ⟨b, i, none⟩ = false)
    (z0 : 0 ≤ z) (z1 : z ≤ 100) (hsh : 4 * (z + 1) = sh) (hv0 : 0 < v) (hv1 : v < 18446744073709551616) (hw : 64 < (v.toNat.log2 : Int) + 1 + sh) :
    Calls Tryz.prog 294 #[.pointer (some ⟨b, 0, none⟩), .int .i64 z, .int .u64 d] w fun e w' => e = .returned (.tuple #[]) ∧ w' = w.setCell ⟨b, 2, none⟩ (.bool true) := by
  have c0 := hcell 0
  have c2 := hcell 2
  have f2 := hfz 2
  simp at c0 c2
  have e1 : IntKind.i64.wrap (4 * (z + 1)) = sh := by rw [IntKind.wrap_i64]; omega
  have c := len64_c v hv0 hv1
  have lg : v.toNat.log2 ≤ 63 := by
    apply Nat.le_of_not_lt
    intro hh
    have : 2 ^ 64 ≤ 2 ^ v.toNat.log2 := Nat.pow_le_pow_right (by decide) hh
    have := (high_le (n := v.toNat) (by omega)).1
    omega
  have n0 : ¬ v = 0 := by omega
  have n2 : IntKind.i64.wrap ((v.toNat.log2 : Int) + 1 + sh) = (v.toNat.log2 : Int) + 1 + sh := by rw [IntKind.wrap_i64]; omega
  generalize (v.toNat.log2 : Int) = g at *
  clear lg
  go_enter Tryz.func294, Tryz.ntmps294
  go_wp2_with (go_at_call 191; refine (c _).mono ?_; rintro e w' ⟨rfl, rfl⟩)
  refine bodyPost_ret (results_none rfl _ _ _) rfl ?_
  exact ⟨rfl, rfl⟩
/-- a digit set behind the value: what it leaves -/
theorem push_c (b : Nat) (D : List UInt8) (v z : Nat) (c : UInt8) (d : Nat) (p : Int) (wd : Bool) (w : World) (hcell : ∀ i, w.cell? ⟨b, i, none⟩ = #[Value.int .u64 v, .int .i64 p, .bool wd][i]?) (hfz : ∀ i, w.frozen? ⟨b, i, none⟩ = false)
    (hD : Dig D v z wd) (hc : hexV c = d) (hd : d ≠ 0) (z1 : z ≤ 100) :
    Calls Tryz.prog 294 #[.pointer (some ⟨b, 0, none⟩), .int .i64 z, .int .u64 d] w fun e w' => e = .returned (.tuple #[]) ∧ ∃ (i : Nat) (x : Value) (v' : Nat) (wd' : Bool), w' = w.setCell ⟨b, i, none⟩ x ∧ (∀ j, w'.cell? ⟨b, j, none⟩ = #[Value.int .u64 v', .int .i64 p, .bool wd'][j]?) ∧ Dig (D ++ [c]) v' 0 wd' := by
  have hv := hD.1
  have d16 : d < 16 := by have := hexV_range c; omega
  by_cases hw : v = 0 ∨ v.log2 + 1 + 4 * (z + 1) ≤ 64
  · obtain ⟨f1, f2⟩ := fits_make v z d d16 hw
    refine (push_core b v z d p (4 * (z + 1)) ((v * 2 ^ (4 * (z + 1)) : Nat) : Int) ((v * 2 ^ (4 * (z + 1)) + d : Nat) : Int) wd w hcell hfz (by omega) (by omega) rfl (by omega) (by omega) ?_ ?_ ?_).mono ?_
    · have e : (4 * ((z : Int) + 1)).toNat = 4 * (z + 1) := by omega
      have e2 : (v : Int) * 2 ^ (4 * (z + 1)) = ((v * 2 ^ (4 * (z + 1)) : Nat) : Int) := by simp
      rw [e, e2, IntKind.wrap_u64]
      omega
    · exact or_digit _ d (4 * (z + 1)) (by omega) d16 (Nat.mul_mod_left _ _) (by omega)
    · rcases hw with h | h
      · exact Or.inl (by omega)
      · by_cases h0 : v = 0
        · exact Or.inl (by omega)
        · exact Or.inr ⟨by omega, by rw [Int.toNat_natCast]; omega⟩
    · rintro e w' ⟨rfl, rfl⟩
      exact ⟨rfl, 0, _, _, wd, rfl, set_at hcell _ (show 0 < 3 by decide), hD.fits c d hc hw⟩
  · refine (push_over b v z d p (4 * (z + 1)) wd w hcell hfz (by omega) (by omega) rfl (by omega) (by omega) (by rw [Int.toNat_natCast]; omega)).mono ?_
    rintro e w' ⟨rfl, rfl⟩
    exact ⟨rfl, 2, _, v, true, rfl, set_at hcell _ (show 2 < 3 by decide), hD.over c d hc hd (by omega) (by omega)⟩
end Go.Proofs.YtgkakflnmpoadaaGreatDoor.W.Nu.Q
