/- Plain functions on texts of numbers, as bytes: what is printed, what is read; what is printed is read back. No Go in sight. -/
import Derived.Test.YtdoojooepkdlhaaDoorE4
namespace Go.Proofs.YtdoojooepkdlhaaDoor.W

def hexB (c : UInt8) : Bool := decide (0 ≤ hexV c)
def digB (c : UInt8) : Bool := decide (48 ≤ c.toNat ∧ c.toNat ≤ 57)
/-- a whole number's text -/
def intT (i : Int) : List UInt8 := if i < 0 then 45 :: decL i.natAbs else decL i.natAbs
/-- digits as they may stand, with a sign ahead or not -/
def formI (m : Bool) (d : List UInt8) : Bool := !d.isEmpty && d.all digB && !(d.head? == some 48 && (decide (1 < d.length) || m))
/-- a whole number, and the error, that a text is read as -/
def readD (m : Bool) (d : List UInt8) : Int × Int :=
  if formI m d = true then
    (if (if m = true then valD d ≤ 9223372036854775808 else valD d < 9223372036854775808) then ((if m = true then -(valD d : Int) else valD d), 0) else (0, 13))
  else (0, 20)
def readI (l : List UInt8) : Int × Int :=
  if 64 < l.length then (0, 2) else match l with
  | 45 :: d => readD true d
  | d => readD false d
/-- digits, a point and digits or not, p, a sign, digits: the number of the digits, and what the last one counts -/
def readPow (N : Nat) (behind : Nat) (r : List UInt8) : Option (Nat × Int) :=
  match r with
  | 112 :: sg :: ds =>
    if (sg = 43 ∨ sg = 45) ∧ ds ≠ [] ∧ ds.length ≤ 5 ∧ ds.all digB = true then some (N, (if sg = 45 then -(valD ds : Int) else valD ds) - 4 * behind) else none
  | _ => none
def readBody (r : List UInt8) : Option (Nat × Int) :=
  if r.takeWhile hexB = [] then none else
  match r.dropWhile hexB with
  | 46 :: r1 => if r1.takeWhile hexB = [] then none else readPow (valH (r.takeWhile hexB ++ r1.takeWhile hexB)) (r1.takeWhile hexB).length (r1.dropWhile hexB)
  | r1 => readPow (valH (r.takeWhile hexB)) 0 r1
/-- behind a sign -/
def readS (s : Int) (l : List UInt8) : Int × Int :=
  match l with
  | 48 :: 120 :: r => match readBody r with
    | none => (0, 20)
    | some (N, low) => match exactP N low with
      | none => (0, 21)
      | some a => (s + a, 0)
  | _ => (0, 20)
def nanT : List UInt8 := [110, 97, 110]
def infT : List UInt8 := [105, 110, 102]
/-- a double's pattern, and the error, that a text is read as -/
def readF (l : List UInt8) : Int × Int :=
  if 64 < l.length then (0, 2) else if l = nanT then (9221120237041090560, 0) else if l = infT then (9218868437227405312, 0) else if l = 45 :: infT then (18442240474082181120, 0) else match l with
  | 45 :: b => readS 9223372036854775808 b
  | b => readS 0 b
/-- the text of a pattern without a sign that is no NaN -/
def posT (a : Nat) : List UInt8 :=
  if a = 9218868437227405312 then infT else if a = 0 then [48, 120, 48, 112, 43, 48]
  else [48, 120, 49] ++ (if fracOf a = 0 then [] else 46 :: fracL 13 (fracOf a)) ++ [112] ++ (if powOf a < 0 then [45] else [43]) ++ decL (powOf a).natAbs
def fltT (u : Int) : List UInt8 := if nanB u = true then nanT else if 9223372036854775808 ≤ u then 45 :: posT (u - 9223372036854775808).toNat else posT u.toNat

/-! ### there and back -/
theorem takeWhile_all {p : UInt8 → Bool} {l r : List UInt8} (h : ∀ c ∈ l, p c = true) (hr : ∀ c, r.head? = some c → p c = false) : (l ++ r).takeWhile p = l ∧ (l ++ r).dropWhile p = r := by
  induction l with
  | nil =>
    cases r with
    | nil => exact ⟨rfl, rfl⟩
    | cons c r =>
      have := hr c rfl
      exact ⟨by simp [this], by simp [this]⟩
  | cons c l ih =>
    have hc := h c (by simp)
    obtain ⟨i1, i2⟩ := ih (fun x hx => h x (by simp [hx]))
    exact ⟨by simp [hc, i1], by simp [hc, i2]⟩
theorem readPow_ok (N behind : Nat) (sg : UInt8) (ds : List UInt8) (h1 : sg = 43 ∨ sg = 45) (h2 : ds ≠ []) (h3 : ds.length ≤ 5) (h4 : ds.all digB = true) :
    readPow N behind (112 :: sg :: ds) = some (N, (if sg = 45 then -(valD ds : Int) else valD ds) - 4 * behind) := by
  unfold readPow
  exact if_pos ⟨h1, h2, h3, h4⟩
theorem readBody_plain (ah : List UInt8) (sg : UInt8) (ds : List UInt8) (ha : ∀ c ∈ ah, hexB c = true) (hn : ah ≠ []) (h1 : sg = 43 ∨ sg = 45) (h2 : ds ≠ []) (h3 : ds.length ≤ 5) (h4 : ds.all digB = true) :
    readBody (ah ++ 112 :: sg :: ds) = some (valH ah, (if sg = 45 then -(valD ds : Int) else valD ds)) := by
  obtain ⟨t1, t2⟩ := takeWhile_all (r := 112 :: sg :: ds) ha (fun c hc => by
    simp only [List.head?_cons, Option.some.injEq] at hc
    subst hc; decide)
  unfold readBody
  rw [t1, t2, if_neg hn]
  have := readPow_ok (valH ah) 0 sg ds h1 h2 h3 h4
  simpa using this
theorem readBody_point (ah bh : List UInt8) (sg : UInt8) (ds : List UInt8) (ha : ∀ c ∈ ah, hexB c = true) (hn : ah ≠ []) (hb : ∀ c ∈ bh, hexB c = true) (hbn : bh ≠ []) (h1 : sg = 43 ∨ sg = 45) (h2 : ds ≠ []) (h3 : ds.length ≤ 5) (h4 : ds.all digB = true) :
    readBody (ah ++ 46 :: (bh ++ 112 :: sg :: ds)) = some (valH (ah ++ bh), (if sg = 45 then -(valD ds : Int) else valD ds) - 4 * bh.length) := by
  obtain ⟨t1, t2⟩ := takeWhile_all (r := 46 :: (bh ++ 112 :: sg :: ds)) ha (fun c hc => by
    simp only [List.head?_cons, Option.some.injEq] at hc
    subst hc; decide)
  obtain ⟨s1, s2⟩ := takeWhile_all (r := 112 :: sg :: ds) hb (fun c hc => by
    simp only [List.head?_cons, Option.some.injEq] at hc
    subst hc; decide)
  unfold readBody
  rw [t1, t2, if_neg hn]
  simp only [s1, s2]
  rw [if_neg hbn]
  exact readPow_ok _ _ sg ds h1 h2 h3 h4
theorem dec_all (n : Nat) : (decL n).all digB = true := by
  rw [List.all_eq_true]
  intro c hc
  exact decide_eq_true (decL_digits n c hc)
theorem pow_len (a : Nat) (h0 : a ≠ 0) (h1 : a < 9218868437227405312) : (decL (powOf a).natAbs).length ≤ 4 := by
  obtain ⟨-, -, f3, f4⟩ := fracOf_spec a h0 h1
  exact decL_length _ 4 (by omega) (by omega)
theorem fracL_hex (f : Nat) (h1 : f < 4503599627370496) : ∀ c ∈ fracL 13 f, hexB c = true := by
  have e0 : (2 : Nat) ^ (52 - 4 * 13) = 1 := by decide
  obtain ⟨-, -, i3⟩ := fracL_val 13 f (Nat.le_refl _) h1 (by rw [e0]; omega)
  exact fun c hc => decide_eq_true (i3 c hc)
theorem fracL_ne (f : Nat) (h : f ≠ 0) : fracL 13 f ≠ [] := by unfold fracL; rw [if_neg h]; simp
/-- a text behind its sign is read back -/
theorem readS_pos (s : Int) (a : Nat) (h1 : a < 9218868437227405312) : readS s (posT a) = (s + a, 0) := by
  unfold posT
  rw [if_neg (by omega)]
  by_cases h0 : a = 0
  · subst h0
    rw [if_pos rfl]
    have e : readBody [48, 112, 43, 48] = some (0, 0) := by decide
    unfold readS
    simp only [e]
    have : exactP 0 0 = some 0 := by unfold exactP; rw [if_pos rfl]
    rw [this]; rfl
  · rw [if_neg h0]
    obtain ⟨f1, -, -, -⟩ := fracOf_spec a h0 h1
    have hd := dec_all (powOf a).natAbs
    have hl := pow_len a h0 h1
    have hne := decL_ne (powOf a).natAbs
    have ex := exact_text a h0 h1
    have pw : (if (if powOf a < 0 then (45 : UInt8) else 43) = 45 then -(valD (decL (powOf a).natAbs) : Int) else valD (decL (powOf a).natAbs)) = powOf a := by
      rw [valD_dec]
      by_cases g : powOf a < 0
      · rw [if_pos g, if_pos rfl]; omega
      · rw [if_neg g, if_neg (by decide)]; omega
    have sgn : (if powOf a < 0 then (45 : UInt8) else 43) = 43 ∨ (if powOf a < 0 then (45 : UInt8) else 43) = 45 := by
      by_cases g : powOf a < 0
      · rw [if_pos g]; exact Or.inr rfl
      · rw [if_neg g]; exact Or.inl rfl
    have hs : (if powOf a < 0 then [(45 : UInt8)] else [43]) = [if powOf a < 0 then 45 else 43] := by split <;> rfl
    have h49 : (49 : UInt8) = hexd 1 := by decide
    by_cases hf : fracOf a = 0
    · rw [if_pos hf, hs]
      rw [hf] at ex
      have e0 : fracL 13 0 = [] := rfl
      rw [e0] at ex
      have b := readBody_plain [49] _ _ (by intro c hc; simp at hc; subst hc; decide) (by simp) sgn hne (by omega) hd
      rw [pw] at b
      have et : [48, 120, 49] ++ [] ++ [112] ++ [if powOf a < 0 then (45 : UInt8) else 43] ++ decL (powOf a).natAbs = 48 :: 120 :: ([49] ++ 112 :: (if powOf a < 0 then (45 : UInt8) else 43) :: decL (powOf a).natAbs) := by simp
      rw [et]
      unfold readS
      simp only [b]
      rw [h49]
      have ex' : exactP (valH [hexd 1]) (powOf a) = some (a : Int) := by simpa using ex
      rw [ex']
    · rw [if_neg hf, hs]
      have b := readBody_point [49] (fracL 13 (fracOf a)) _ _ (by intro c hc; simp at hc; subst hc; decide) (by simp) (fracL_hex _ f1) (fracL_ne _ hf) sgn hne (by omega) hd
      rw [pw] at b
      have et : [48, 120, 49] ++ 46 :: fracL 13 (fracOf a) ++ [112] ++ [if powOf a < 0 then (45 : UInt8) else 43] ++ decL (powOf a).natAbs = 48 :: 120 :: ([49] ++ 46 :: (fracL 13 (fracOf a) ++ 112 :: (if powOf a < 0 then (45 : UInt8) else 43) :: decL (powOf a).natAbs)) := by simp
      rw [et]
      unfold readS
      simp only [b]
      rw [h49]
      have ex' : exactP (valH ([hexd 1] ++ fracL 13 (fracOf a))) (powOf a - 4 * (fracL 13 (fracOf a)).length) = some (a : Int) := ex
      rw [ex']
theorem posT_len (a : Nat) (h1 : a ≤ 9218868437227405312) : (posT a).length ≤ 23 := by
  unfold posT
  by_cases hi : a = 9218868437227405312
  · rw [if_pos hi]; decide
  · rw [if_neg hi]
    by_cases h0 : a = 0
    · rw [if_pos h0]; decide
    · rw [if_neg h0]
      have hl := pow_len a h0 (by omega)
      obtain ⟨f1, -, -, -⟩ := fracOf_spec a h0 (by omega)
      obtain ⟨g1, -⟩ := one_frac (fracOf a) f1
      have e1 : (if fracOf a = 0 then [] else (46 : UInt8) :: fracL 13 (fracOf a)).length ≤ 14 := by
        split
        · simp
        · simp only [List.length_cons]; omega
      have e2 : (if powOf a < 0 then [(45 : UInt8)] else [43]).length = 1 := by split <;> rfl
      simp only [List.length_append, e2, List.length_cons, List.length_nil]
      omega
theorem posT_head (a : Nat) : (posT a).head? = some 105 ∨ (posT a).head? = some 48 := by
  unfold posT
  split
  · exact Or.inl rfl
  · split
    · exact Or.inr rfl
    · exact Or.inr rfl
/-- what is printed of a double is read back, NaNs made one -/
theorem readF_back (u : Int) (u0 : 0 ≤ u) (u1 : u < 18446744073709551616) : readF (fltT u) = (fltW u, 0) := by
  unfold fltT fltW
  cases hn : nanB u with
  | true => rw [if_pos rfl, if_pos rfl]; decide
  | false =>
    simp only [Bool.false_eq_true, if_false]
    have hm : u % 9223372036854775808 ≤ 9218868437227405312 := by
      simp only [nanB, decide_eq_false_iff_not] at hn
      omega
    by_cases hs : 9223372036854775808 ≤ u
    · rw [if_pos hs]
      generalize hA : (u - 9223372036854775808).toNat = a
      have ha : a ≤ 9218868437227405312 := by omega
      have hl := posT_len a ha
      by_cases hi : a = 9218868437227405312
      · have e : u = 18442240474082181120 := by omega
        rw [e, hi]; decide
      · have h48 : (posT a).head? = some 48 := by
          rcases posT_head a with h | h
          · exfalso
            unfold posT at h
            rw [if_neg hi] at h
            split at h <;> cases h
          · exact h
        unfold readF
        rw [if_neg (by simp only [List.length_cons]; omega), if_neg (by intro e; injection e with e1 e2; revert e1; decide), if_neg (by intro e; injection e with e1 e2; revert e1; decide), if_neg (by intro e; injection e with e1 e2; rw [e2] at h48; revert h48; decide)]
        show readS 9223372036854775808 (posT a) = _
        rw [readS_pos _ a (by omega)]
        congr 1; omega
    · rw [if_neg hs]
      generalize hA : u.toNat = a
      have ha : a ≤ 9218868437227405312 := by omega
      have hl := posT_len a ha
      by_cases hi : a = 9218868437227405312
      · have e : u = 9218868437227405312 := by omega
        rw [e, hi]; decide
      · have h48 : (posT a).head? = some 48 := by
          rcases posT_head a with h | h
          · exfalso
            unfold posT at h
            rw [if_neg hi] at h
            split at h <;> cases h
          · exact h
        have r := readS_pos 0 a (by omega)
        unfold readF
        rw [if_neg (by omega), if_neg (by intro e; rw [e] at h48; revert h48; decide), if_neg (by intro e; rw [e] at h48; revert h48; decide), if_neg (by intro e; rw [e] at h48; revert h48; decide)]
        cases hp : posT a with
        | nil => rw [hp] at h48; cases h48
        | cons c l =>
          rw [hp] at h48 r
          simp only [List.head?_cons, Option.some.injEq] at h48
          subst h48
          show readS 0 (48 :: l) = _
          rw [r]
          congr 1; omega
/-- what is printed of a whole number is read back -/
theorem readI_back (i : Int) (i0 : -9223372036854775808 ≤ i) (i1 : i < 9223372036854775808) : readI (intT i) = (i, 0) := by
  have len : (decL i.natAbs).length ≤ 19 := decL_length _ 19 (by omega) (by omega)
  have form : ∀ m : Bool, (m = true → i.natAbs ≠ 0) → formI m (decL i.natAbs) = true := by
    intro m hm
    obtain ⟨g1, g2, g3⟩ := decL_good i.natAbs
    unfold formI
    have a1 : (decL i.natAbs).isEmpty = false := by simpa using g1
    have h48 : (48 : UInt8) = dig 0 := by decide
    rw [a1, dec_all]
    by_cases hz : i.natAbs = 0
    · have mf : m = false := by
        cases m
        · rfl
        · exact absurd hz (hm rfl)
      rw [hz, mf, decL_small (by omega)]; decide
    · have hh := decL_head i.natAbs hz
      rw [← h48] at hh
      have : ((decL i.natAbs).head? == some 48) = false := by simpa using hh
      rw [this]; rfl
  unfold intT
  by_cases hs : i < 0
  · rw [if_pos hs]
    unfold readI
    rw [if_neg (by simp only [List.length_cons]; omega)]
    show readD true (decL i.natAbs) = _
    unfold readD
    rw [if_pos (form true (fun _ => by omega)), valD_dec]
    rw [if_pos (by rw [if_pos rfl]; omega), if_pos rfl]
    congr 1; omega
  · rw [if_neg hs]
    unfold readI
    rw [if_neg (by omega)]
    have hd := decL_digits i.natAbs
    have key : readD false (decL i.natAbs) = (i, 0) := by
      unfold readD
      rw [if_pos (form false (fun h => by cases h)), valD_dec, if_pos (by rw [if_neg (by decide)]; omega), if_neg (by decide)]
      congr 1; omega
    cases hp : decL i.natAbs with
    | nil => exact absurd hp (decL_ne _)
    | cons c l =>
      rw [hp] at hd key
      have hc := hd c (by simp)
      have hne : c ≠ 45 := by intro e; subst e; revert hc; decide
      split
      · rename_i d e
        injection e with e1 e2
        exact absurd e1 hne
      · exact key
end Go.Proofs.YtdoojooepkdlhaaDoor.W
