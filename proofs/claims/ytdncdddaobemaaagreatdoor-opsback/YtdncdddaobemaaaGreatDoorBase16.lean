import Derived.Test.YtdncdddaobemaaaGreatDoorBase15
import Derived.Lib.ItoaNum
import Derived.Lib.TrailingZeros
import Derived.Lib.Bytealg
import Derived.Test.YtdncdddaobemaaaGreatDoorBase0
import Derived.Below
import Derived.WalkSmall
import Derived.Lib.LaidTab
import Derived.Test.YtdncdddaobemaaaGreatDoorShelf
import Derived.Sort.Grow
import Derived.Deep.RegionHeld3
import Derived.Deep.DeepCutAuto
import Derived.WalkMore
import Derived.RegionTactic
import Derived.Laws.BytesArg
import Derived.Laws.IdiomStrings
/- Plain facts for package numtext: what the library's functions compute, in the words of the texts on numbers; digits that are read one by one. No Go in sight. -/
namespace Go.Proofs.YtdncdddaobemaaaGreatDoor.W.Nu.Q

theorem decDigits_eq' (n : Nat) : Lib.decDigits n = decL n := by
  induction n using Nat.strongRecOn with
  | _ n ih =>
    rw [Lib.decDigits, decL]
    by_cases h : n < 10
    · rw [dif_pos h, if_pos h]; rfl
    · rw [dif_neg h, if_neg h, ih (n / 10) (by omega)]; rfl
theorem itoa_intT (i : Int) : Lib.itoa i = intT i := by
  unfold Lib.itoa intT
  by_cases h : i < 0
  · rw [if_pos h, if_pos h, decDigits_eq']
  · rw [if_neg h, if_neg h, decDigits_eq']
    congr 1; omega
theorem log2_half (x : Nat) (h : 2 ≤ x) : x.log2 = (x / 2).log2 + 1 := by
  rw [Nat.log2_def, if_pos h]
theorem bitLen_log (x : Nat) (h0 : x ≠ 0) (h : x < 18446744073709551616) : Lib.bitLen x = x.log2 + 1 := by
  induction x using Nat.strongRecOn with
  | _ x ih =>
    rw [Lib.bitLen_half x h0 (by omega)]
    by_cases h2 : 2 ≤ x
    · rw [ih (x / 2) (by omega) (by omega) (by omega), log2_half x h2]; omega
    · have : x = 1 := by omega
      subst this
      decide
theorem ctzFrom_twos (f x : Nat) (h0 : x ≠ 0) (h : x < 2 ^ f) : Lib.ctzFrom f x = twos x := by
  induction f generalizing x with
  | zero => simp at h; omega
  | succ f ih =>
    rw [Lib.ctzFrom, twos, if_neg h0]
    by_cases g : x % 2 = 1
    · rw [if_pos g, if_neg (by omega)]
    · rw [if_neg g, if_pos (by omega), ih (x / 2) (by omega) (by rw [Nat.pow_succ] at h; omega)]
      omega
theorem ctz_twos (x : Nat) (h0 : x ≠ 0) (h : x < 18446744073709551616) : Lib.ctz 64 x = twos x := by
  unfold Lib.ctz
  rw [if_neg h0, ctzFrom_twos 64 x h0 (by omega)]
/-- a hexadecimal digit's number, by its place among the digits -/
def hexL : List UInt8 := [48, 49, 50, 51, 52, 53, 54, 55, 56, 57, 97, 98, 99, 100, 101, 102]
theorem index_hex (c : UInt8) : Lib.indexByte hexL c = hexV c := by
  have all : ∀ n : Fin 256, Lib.indexByte hexL (UInt8.ofNat n.val) = hexV (UInt8.ofNat n.val) := by decide +kernel
  have := all ⟨c.toNat, c.toNat_lt⟩
  simpa using this
theorem prefix_minus (l : List UInt8) : Lib.hasPrefix l [45] = (match l with | 45 :: _ => true | _ => false) ∧ Lib.trimPrefix l [45] = (match l with | 45 :: d => d | d => d) := by
  unfold Lib.trimPrefix Lib.hasPrefix
  cases l with
  | nil => exact ⟨rfl, rfl⟩
  | cons c r =>
    by_cases h : c = 45
    · subst h; exact ⟨rfl, rfl⟩
    · have e : List.isPrefixOf [45] (c :: r) = false := by
        have : (45 == c) = false := by simpa using fun e => h e.symm
        simp [List.isPrefixOf, this]
      rw [e]
      constructor
      · split
        · rename_i e1; injection e1 with e2 e3; exact absurd e2 h
        · rfl
      · simp only [Bool.false_eq_true, if_false]
        split
        · rename_i e1; injection e1 with e2 e3; exact absurd e2 h
        · rfl
/-! ### how wide a number is -/
theorem twos_half (n : Nat) (h : n ≠ 0) (g : n % 2 = 0) : twos n = twos (n / 2) + 1 := by rw [twos, if_neg h, if_pos g]
theorem twos_odd (n : Nat) (g : n % 2 = 1) : twos n = 0 := by rw [twos, if_neg (by omega), if_neg (by omega)]
theorem log2_odd (n : Nat) (h : n ≠ 0) : n.log2 = (oddN n).log2 + twos n := by
  induction n using Nat.strongRecOn with
  | _ n ih =>
    by_cases g : n % 2 = 0
    · rw [twos_half n h g, oddN, if_neg h, if_pos g, log2_half n (by omega), ih (n / 2) (by omega) (by omega)]
      omega
    · rw [twos_odd n (by omega), oddN, if_neg h, if_neg g]; rfl
theorem log2_digit (n d : Nat) (h : n ≠ 0) (hd : d < 16) : (16 * n + d).log2 = n.log2 + 4 := by
  obtain ⟨l1, l2⟩ := high_le h
  rw [Nat.log2_eq_iff (by omega), Nat.pow_add, Nat.pow_add, Nat.pow_add]
  rw [Nat.pow_add] at l2
  omega
theorem twos_digit (n d : Nat) (h : n ≠ 0) (hd : d < 16) : twos (16 * n + d) ≤ twos n + 4 := by
  have e : ∀ m, m ≠ 0 → m % 2 = 0 → twos m = twos (m / 2) + 1 := twos_half
  by_cases g1 : (16 * n + d) % 2 = 0
  · rw [e _ (by omega) g1]
    by_cases g2 : ((16 * n + d) / 2) % 2 = 0
    · rw [e _ (by omega) g2]
      by_cases g3 : ((16 * n + d) / 2 / 2) % 2 = 0
      · rw [e _ (by omega) g3]
        by_cases g4 : ((16 * n + d) / 2 / 2 / 2) % 2 = 0
        · rw [e _ (by omega) g4]
          have : (16 * n + d) / 2 / 2 / 2 / 2 = n := by omega
          rw [this]
          exact Nat.le_refl _
        · rw [twos_odd _ (by omega)]; omega
      · rw [twos_odd _ (by omega)]; omega
    · rw [twos_odd _ (by omega)]; omega
  · rw [twos_odd _ (by omega)]; omega
/-- more digits than a double holds -/
def wideN (n : Nat) : Prop := n ≠ 0 ∧ twos n + 53 ≤ n.log2
theorem wide_digit {n : Nat} (h : wideN n) (d : Nat) (hd : d < 16) : wideN (16 * n + d) := by
  obtain ⟨h1, h2⟩ := h
  have a := log2_digit n d h1 hd
  have b := twos_digit n d h1 hd
  exact ⟨by omega, by omega⟩
theorem wide_none {n : Nat} (h : wideN n) (low : Int) : exactP n low = none := by
  obtain ⟨h1, h2⟩ := h
  have := log2_odd n h1
  unfold exactP
  rw [if_neg h1, if_pos (Or.inl (by omega))]
theorem twos_low (n : Nat) (h : n % 16 ≠ 0) : twos n ≤ 3 := by
  have e := twos_half
  by_cases g1 : n % 2 = 0
  · rw [e _ (by omega) g1]
    by_cases g2 : (n / 2) % 2 = 0
    · rw [e _ (by omega) g2]
      by_cases g3 : (n / 2 / 2) % 2 = 0
      · rw [e _ (by omega) g3, twos_odd _ (by omega)]; omega
      · rw [twos_odd _ (by omega)]; omega
    · rw [twos_odd _ (by omega)]; omega
  · rw [twos_odd _ (by omega)]; omega
theorem log2_mul_pow (n k : Nat) (h : n ≠ 0) : (n * 2 ^ k).log2 = n.log2 + k := by
  obtain ⟨l1, l2⟩ := high_le h
  have p := Nat.two_pow_pos k
  have hne : n * 2 ^ k ≠ 0 := Nat.mul_ne_zero h (by omega)
  rw [Nat.log2_eq_iff hne]
  refine ⟨by rw [Nat.pow_add]; exact Nat.mul_le_mul_right _ l1, ?_⟩
  have : (n + 1) * 2 ^ k ≤ 2 ^ (n.log2 + 1) * 2 ^ k := Nat.mul_le_mul_right _ l2
  rw [← Nat.pow_add, Nat.add_mul, Nat.one_mul] at this
  have e : n.log2 + 1 + k = n.log2 + k + 1 := by omega
  rw [e] at this
  omega
/-- a digit that no longer fits makes the number wide -/
theorem wide_make (v z d : Nat) (hv : v ≠ 0) (hd0 : d ≠ 0) (hd : d < 16) (hl : 64 < v.log2 + 1 + 4 * (z + 1)) : wideN (16 * (v * 16 ^ z) + d) := by
  have ne : v * 16 ^ z ≠ 0 := Nat.mul_ne_zero hv (Nat.pos_iff_ne_zero.1 (Nat.pow_pos (by decide)))
  have l : (v * 16 ^ z).log2 = v.log2 + 4 * z := by rw [pow16, log2_mul_pow v _ hv]
  have a := log2_digit _ d ne hd
  have b := twos_low (16 * (v * 16 ^ z) + d) (by omega)
  exact ⟨by omega, by omega⟩
/-- one that fits: what the value becomes -/
theorem fits_make (v z d : Nat) (hd : d < 16) (h : v = 0 ∨ v.log2 + 1 + 4 * (z + 1) ≤ 64) : v * 2 ^ (4 * (z + 1)) + d < 18446744073709551616 ∧ v * 2 ^ (4 * (z + 1)) + d = 16 * (v * 16 ^ z) + d := by
  have e : v * 2 ^ (4 * (z + 1)) = 16 * (v * 16 ^ z) := by
    rw [← pow16, Nat.pow_succ, Nat.mul_comm 16, Nat.mul_assoc]
  refine ⟨?_, by rw [e]⟩
  rcases h with h | h
  · subst h; rw [Nat.zero_mul]; omega
  · by_cases hv : v = 0
    · subst hv; rw [Nat.zero_mul]; omega
    obtain ⟨l1, l2⟩ := high_le hv
    have p := Nat.two_pow_pos (4 * (z + 1))
    have h1 : (v + 1) * 2 ^ (4 * (z + 1)) ≤ 2 ^ (v.log2 + 1) * 2 ^ (4 * (z + 1)) := Nat.mul_le_mul_right _ l2
    rw [← Nat.pow_add, Nat.add_mul, Nat.one_mul] at h1
    have h2 : 2 ^ (v.log2 + 1 + 4 * (z + 1)) ≤ 2 ^ 64 := Nat.pow_le_pow_right (by decide) h
    have h3 : (2 : Nat) ^ 64 = 18446744073709551616 := by decide
    have h4 : 2 ^ 4 ≤ 2 ^ (4 * (z + 1)) := Nat.pow_le_pow_right (by decide) (by omega)
    omega
/-! ### digits read one by one -/
/-- what is known of the digits read so far: the value, the noughts kept back, or that they are too wide -/
def Dig (D : List UInt8) (v : Nat) (z : Nat) (wd : Bool) : Prop :=
  v < 18446744073709551616 ∧ z ≤ D.length ∧ (wd = true → wideN (valH D)) ∧ (wd = false → valH D = v * 16 ^ z)
theorem Dig.start : Dig [] 0 0 false := ⟨by decide, Nat.le_refl _, (by intro h; cases h), fun _ => rfl⟩
theorem Dig.nought {D : List UInt8} {v z : Nat} {wd : Bool} (h : Dig D v z wd) (c : UInt8) (hc : hexV c = 0) : Dig (D ++ [c]) v (z + 1) wd := by
  obtain ⟨h1, h2, h3, h4⟩ := h
  have e : valH (D ++ [c]) = 16 * valH D + 0 := by rw [valH_snoc, hc]; rfl
  refine ⟨h1, by simp; omega, fun hw => ?_, fun hw => ?_⟩
  · rw [e]; exact wide_digit (h3 hw) 0 (by decide)
  · rw [e, h4 hw, Nat.pow_succ, Nat.add_zero, Nat.mul_comm 16, Nat.mul_assoc]
theorem Dig.fits {D : List UInt8} {v z : Nat} {wd : Bool} (h : Dig D v z wd) (c : UInt8) (d : Nat) (hc : hexV c = d) (hf : v = 0 ∨ v.log2 + 1 + 4 * (z + 1) ≤ 64) : Dig (D ++ [c]) (v * 2 ^ (4 * (z + 1)) + d) 0 wd := by
  obtain ⟨h1, h2, h3, h4⟩ := h
  have hd : d < 16 := by have := hexV_range c; omega
  have e : valH (D ++ [c]) = 16 * valH D + d := by rw [valH_snoc, hc]; rfl
  obtain ⟨f1, f2⟩ := fits_make v z d hd hf
  refine ⟨f1, Nat.zero_le _, fun hw => ?_, fun hw => ?_⟩
  · rw [e]; exact wide_digit (h3 hw) d hd
  · rw [e, h4 hw, f2, Nat.pow_zero, Nat.mul_one]
theorem Dig.over {D : List UInt8} {v z : Nat} {wd : Bool} (h : Dig D v z wd) (c : UInt8) (d : Nat) (hc : hexV c = d) (hd0 : d ≠ 0) (hv : v ≠ 0) (hf : 64 < v.log2 + 1 + 4 * (z + 1)) : Dig (D ++ [c]) v 0 true := by
  obtain ⟨h1, h2, h3, h4⟩ := h
  have hd : d < 16 := by have := hexV_range c; omega
  have e : valH (D ++ [c]) = 16 * valH D + d := by rw [valH_snoc, hc]; rfl
  refine ⟨h1, Nat.zero_le _, fun _ => ?_, by intro h; cases h⟩
  rw [e]
  cases wd with
  | true => exact wide_digit (h3 rfl) d hd
  | false => rw [h4 rfl]; exact wide_make v z d hv hd0 hd hf
/-- which pattern it is, in the end -/
def numP (v : Nat) (wd : Bool) (low : Int) : Option Int := if wd = true then none else exactP v low
theorem Dig.exact {D : List UInt8} {v z : Nat} {wd : Bool} (h : Dig D v z wd) (low : Int) : exactP (valH D) low = numP v wd (low + 4 * z) := by
  obtain ⟨h1, h2, h3, h4⟩ := h
  unfold numP
  cases wd with
  | true => rw [if_pos rfl]; exact wide_none (h3 rfl) low
  | false =>
    rw [if_neg (by decide), h4 rfl, pow16, exact_shift]
    congr 1
/-- the places of the digits: with a point or none -/
def Place (t : List UInt8) (point : Int) (D : List UInt8) : Prop :=
  (point = -1 ∧ D = t ∧ ∀ c ∈ t, hexB c = true) ∨
  (∃ A B, t = A ++ 46 :: B ∧ D = A ++ B ∧ point = A.length ∧ (∀ c ∈ A, hexB c = true) ∧ ∀ c ∈ B, hexB c = true)
theorem Place.start : Place [] (-1) [] := Or.inl ⟨rfl, rfl, by simp⟩
theorem Place.digit {t D : List UInt8} {point : Int} (h : Place t point D) (c : UInt8) (hc : hexB c = true) : Place (t ++ [c]) point (D ++ [c]) := by
  rcases h with ⟨h1, h2, h3⟩ | ⟨A, B, h1, h2, h3, h4, h5⟩
  · refine Or.inl ⟨h1, by rw [h2], fun x hx => ?_⟩
    rcases List.mem_append.1 hx with hx | hx
    · exact h3 x hx
    · simp only [List.mem_singleton] at hx; rw [hx]; exact hc
  · refine Or.inr ⟨A, B ++ [c], by rw [h1]; simp, by rw [h2]; simp, h3, h4, fun x hx => ?_⟩
    rcases List.mem_append.1 hx with hx | hx
    · exact h5 x hx
    · simp only [List.mem_singleton] at hx; rw [hx]; exact hc
theorem Place.point {t D : List UInt8} {point : Int} (h : Place t point D) (hp : point < 0) : Place (t ++ [46]) t.length D ∧ D.length = t.length := by
  rcases h with ⟨h1, h2, h3⟩ | ⟨A, B, h1, h2, h3, h4, h5⟩
  · exact ⟨Or.inr ⟨t, [], rfl, by rw [h2, List.append_nil], rfl, h3, by simp⟩, by rw [h2]⟩
  · omega
/-- what readBody makes of digits that end at a byte that is none -/
def stopB (point : Int) (rest : List UInt8) : Prop := ∀ c, rest.head? = some c → hexB c = false ∧ (c = 46 → 0 ≤ point)
theorem place_body {t D rest : List UInt8} {point : Int} (h : Place t point D) (hs : stopB point rest) :
    readBody (t ++ rest) = if t.length = 0 ∨ point = 0 ∨ point = (t.length : Int) - 1 then none else readPow (valH D) (if 0 < point then t.length - 1 - point.toNat else 0) rest := by
  have d46 : hexB 46 = false := by decide
  rcases h with ⟨h1, h2, h3⟩ | ⟨A, B, h1, h2, h3, h4, h5⟩
  · obtain ⟨t1, t2⟩ := takeWhile_all (r := rest) h3 (fun c hc => (hs c hc).1)
    unfold readBody
    rw [t1, t2]
    by_cases ht : t = []
    · rw [if_pos ht, if_pos (Or.inl (by rw [ht]; rfl))]
    · have hl : t.length ≠ 0 := fun e => ht (List.eq_nil_of_length_eq_zero e)
      rw [if_neg ht, if_neg (by rintro (e | e | e) <;> omega), if_neg (by omega), h2]
      split
      · rename_i r1
        have := (hs 46 rfl).2 rfl
        omega
      · rfl
  · have e : t ++ rest = A ++ 46 :: (B ++ rest) := by rw [h1]; simp
    have hl : t.length = A.length + 1 + B.length := by rw [h1]; simp; omega
    obtain ⟨t1, t2⟩ := takeWhile_all (r := 46 :: (B ++ rest)) h4 (fun c hc => by
      simp only [List.head?_cons, Option.some.injEq] at hc
      subst hc; exact d46)
    obtain ⟨s1, s2⟩ := takeWhile_all (r := rest) h5 (fun c hc => (hs c hc).1)
    unfold readBody
    rw [e, t1, t2]
    simp only [s1, s2]
    by_cases hA : A = []
    · rw [if_pos hA, if_pos (Or.inr (Or.inl (by rw [h3, hA]; rfl)))]
    · have hAl : A.length ≠ 0 := fun e => hA (List.eq_nil_of_length_eq_zero e)
      rw [if_neg hA]
      by_cases hB : B = []
      · rw [if_pos hB, if_pos (Or.inr (Or.inr (by rw [h3, hl, hB]; simp)))]
      · have hBl : B.length ≠ 0 := fun e => hB (List.eq_nil_of_length_eq_zero e)
        rw [if_neg hB, if_neg (by rintro (e | e | e) <;> omega), if_pos (by omega), h2]
        congr 1
        omega
end Go.Proofs.YtdncdddaobemaaaGreatDoor.W.Nu.Q
/- Worlds, as the contracts of package numtext want them: what was there stays; the library's tables lie as they were laid. -/
namespace Go.Proofs.YtdncdddaobemaaaGreatDoor.W.Nu.Q
open Go.ChangeShapes Go.WideShapes Go.RowKit

theorem bel_trans {a b c : World} (h : Below a.heap.size a b) (k : Below b.heap.size b c) : Below a.heap.size a c := h.trans (k.mono h.size)
/-- the two tables of the library that are read -/
def Tabs (w : World) : Prop :=
  Lib.TabIs Tryz.prog w "internal/strconv.uint64pow10" .u64 Lib.pow10Tab ∧ ∀ j, j < Lib.deBruijn64tab.length → w.cell? ⟨3, j, none⟩ = some (.int .u8 (Lib.deBruijn64tab.getD j 0))
theorem pow10_g : Tryz.prog.globalNamed "internal/strconv.uint64pow10" = some 2 := by kernel_rfl
theorem Tabs.below {w w' : World} (h : Tabs w) (hb : Below w.heap.size w w') : Tabs w' := by
  obtain ⟨h1, h2⟩ := h
  refine ⟨?_, fun j hj => ?_⟩
  · have lt : 2 < w.heap.size := by
      apply Nat.lt_of_not_le
      intro hle
      have e : w.heap[2]? = none := Array.getElem?_eq_none hle
      unfold Lib.TabIs World.var? at h1
      rw [pow10_g] at h1
      simp only [Option.bind_some, e] at h1
      cases h1
    exact var?_below hb pow10_g lt h1
  · have lt : 3 < w.heap.size := by
      apply Nat.lt_of_not_le
      intro hle
      have e : w.heap[3]? = none := Array.getElem?_eq_none hle
      have := h2 j hj
      simp only [World.cell?, e] at this
      cases this
    rw [hb.cell lt]
    exact h2 j hj
theorem Tabs.drewN {w : World} (h : Tabs w) (n : Nat) : Tabs (w.drewN n) := h.below (Go.below_drewN (Below.refl _ _) n)
theorem ret_s {a b : List UInt8} (h : a = b) : Ending.returned (.string ⟨a.toArray⟩) = .returned (.string ⟨b.toArray⟩) := by rw [h]
theorem ret_ib {k : IntKind} {a a' : Int} {b b' : Bool} (h : a = a') (g : b = b') : Ending.returned (.tuple #[.int k a, .bool b]) = .returned (.tuple #[.int k a', .bool b']) := by rw [h, g]
theorem int_eq {k : IntKind} {a b : Int} (h : a = b) : Value.int k a = Value.int k b := by rw [h]
theorem take_snoc (s : ByteArray) (k : Nat) (h : k < s.size) : s.data.toList.take (k + 1) = s.data.toList.take k ++ [s[k]] := by
  rw [List.take_succ_eq_append_getElem (by simpa using h)]; rfl
theorem take_all (s : ByteArray) (k : Nat) (h : ¬ k < s.size) : s.data.toList.take k = s.data.toList := List.take_of_length_le (by simp; omega)
theorem size_list (s : ByteArray) : s.data.toList.length = s.size := by simp
end Go.Proofs.YtdncdddaobemaaaGreatDoor.W.Nu.Q
/- Contracts of the library, in the words of the texts on numbers: decimal digits, beginnings of strings, a digit's place, lengths in bits. -/
namespace Go.Proofs.YtdncdddaobemaaaGreatDoor.W.Nu.Q
open Go.ChangeShapes Go.WideShapes Go.RowKit

theorem grow_below (w : World) (k : Nat) (os : Array Obj) : Below w.heap.size w (Sort.grow (w.drewN k) os) :=
  ⟨rfl, rfl, rfl, by simp [Sort.grow], fun i hi => by
    simp only [Sort.grow, World.drewN]
    rw [Array.getElem?_append_left hi]⟩
theorem formatInt_c (i : Int) (h0 : -9223372036854775808 ≤ i) (h1 : i ≤ 9223372036854775807) (w : World) (ht : Tabs w) :
    Calls Tryz.prog 116 #[.int .i64 i, .int .i64 10] w fun e w' => e = .returned (.string ⟨(intT i).toArray⟩) ∧ Below w.heap.size w w' := by
  refine (Tryz.strconv_FormatInt_10 i h0 h1 w ht.1).mono ?_
  rintro e w' ⟨rfl, k, os, rfl⟩
  exact ⟨by rw [itoa_intT], grow_below _ _ _⟩
theorem itoa_c (i : Int) (h0 : -9223372036854775808 ≤ i) (h1 : i ≤ 9223372036854775807) (w : World) (ht : Tabs w) :
    Calls Tryz.prog 188 #[.int .i64 i] w fun e w' => e = .returned (.string ⟨(intT i).toArray⟩) ∧ Below w.heap.size w w' := by
  refine (Tryz.strconv_Itoa i h0 h1 w ht.1).mono ?_
  rintro e w' ⟨rfl, k, os, rfl⟩
  exact ⟨by rw [itoa_intT], grow_below _ _ _⟩
theorem hasPrefix_c (s p : ByteArray) (w : World) :
    Calls Tryz.prog 175 #[.string s, .string p] w fun e w' => e = .returned (.bool (Lib.hasPrefix s.data.toList p.data.toList)) ∧ w' = w := Tryz.strings_HasPrefix s p w
theorem trimPrefix_c (s p : ByteArray) (w : World) :
    Calls Tryz.prog 176 #[.string s, .string p] w fun e w' => e = .returned (.string ⟨(Lib.trimPrefix s.data.toList p.data.toList).toArray⟩) ∧ w' = w := Tryz.strings_TrimPrefix s p w
theorem cutPrefix_c (s p : ByteArray) (w : World) :
    Calls Tryz.prog 221 #[.string s, .string p] w fun e w' => e = .returned (.tuple #[.string ⟨(Lib.trimPrefix s.data.toList p.data.toList).toArray⟩, .bool (Lib.hasPrefix s.data.toList p.data.toList)]) ∧ w' = w := Tryz.strings_CutPrefix s p w
theorem indexHex_c (c : UInt8) (w : World) :
    Calls Tryz.prog 288 #[.string ⟨#[48, 49, 50, 51, 52, 53, 54, 55, 56, 57, 97, 98, 99, 100, 101, 102]⟩, .int .u8 c.toNat] w fun e w' => e = .returned (.int .i64 (hexV c)) ∧ w' = w := by
  have h := Tryz.strings_IndexByte ⟨#[48, 49, 50, 51, 52, 53, 54, 55, 56, 57, 97, 98, 99, 100, 101, 102]⟩ (c.toNat : Int) w
  have e : Lib.indexByte (⟨#[48, 49, 50, 51, 52, 53, 54, 55, 56, 57, 97, 98, 99, 100, 101, 102]⟩ : ByteArray).data.toList ((c.toNat : Int).toNat.toUInt8) = hexV c := by
    have e1 : ((c.toNat : Int).toNat.toUInt8) = c := by simp
    rw [e1]
    exact index_hex c
  rw [e] at h
  exact h
theorem len64_c (x : Int) (h0 : 0 < x) (h1 : x < 18446744073709551616) (w : World) :
    Calls Tryz.prog 187 #[.int .u64 x] w fun e w' => e = .returned (.int .i64 (x.toNat.log2 + 1)) ∧ w' = w := by
  refine (Tryz.bits_Len64 x w (by omega) (by omega)).mono ?_
  rintro e w' ⟨rfl, rfl⟩
  exact ⟨by rw [bitLen_log _ (by omega) (by omega)]; rfl, rfl⟩
theorem ctz_c (x : Int) (h0 : 0 < x) (h1 : x < 18446744073709551616) (w : World) (ht : Tabs w) :
    Calls Tryz.prog 262 #[.int .u64 x] w fun e w' => e = .returned (.int .i64 (twos x.toNat)) ∧ w' = w := by
  obtain ⟨n, rfl⟩ := Int.eq_ofNat_of_zero_le (Int.le_of_lt h0)
  refine (Tryz.bits_TrailingZeros64 n (by omega) w (fun _ => ht.2)).mono ?_
  rintro e w' ⟨rfl, rfl⟩
  exact ⟨by rw [ctz_twos _ (by omega) (by omega)]; rfl, rfl⟩
end Go.Proofs.YtdncdddaobemaaaGreatDoor.W.Nu.Q
/- Contracts of package numtext: decimal digits, whole numbers printed and read. -/
namespace Go.Proofs.YtdncdddaobemaaaGreatDoor.W.Nu.Q
open Go.ChangeShapes Go.WideShapes Go.RowKit

def allD (l : List UInt8) : Bool := !l.isEmpty && l.all digB
theorem isDecimal_c (c : UInt8) (w : World) :
    Calls Tryz.prog 264 #[.int .u8 c.toNat] w fun e w' => e = .returned (.bool (digB c)) ∧ w' = w := by
  go_enter Tryz.func264, Tryz.ntmps264
  go_wp2
  all_goals (go_ret; refine ⟨ret_bool ?_, rfl⟩; simp only [digB]; rw [Bool.eq_iff_iff]; simp only [decide_eq_true_eq, Bool.false_eq_true, false_iff]; omega)
theorem all_step (s : ByteArray) (k : Nat) (h : k < s.size) (hd : digB s[k] = true) (ha : (s.data.toList.take k).all digB = true) : (s.data.toList.take (k + 1)).all digB = true := by
  rw [take_snoc s k h, List.all_append, ha]
  simp [hd]
theorem all_not (s : ByteArray) (k : Nat) (h : k < s.size) (hd : digB s[k] = false) : allD s.data.toList = false := by
  have e : s.data.toList.all digB = false := by
    rw [List.all_eq_false]
    exact ⟨s[k], by rw [← List.take_append_drop (k + 1) s.data.toList, take_snoc s k h]; simp, by rw [hd]; decide⟩
  unfold allD
  rw [e, Bool.and_false]
theorem toList_eq (s : ByteArray) : s.toList = s.data.toList := ByteArray.toList_eq s
set_option maxHeartbeats 400000 in
theorem allDecimal_c (s : ByteArray) (hs : s.size ≤ maxLen) (w : World) :
    Calls Tryz.prog 222 #[.string s] w fun e w' => e = .returned (.bool (allD s.data.toList)) ∧ w' = w := by
  unfold maxLen at hs
  go_enter Tryz.func222, Tryz.ntmps222
  go_wp2_with fail
  go_loop [6] (fun i => ∃ k : Nat, k ≤ s.size ∧ i = .int .i64 k ∧ (s.data.toList.take k).all digB = true) (fun i => s.size - (intOf i).toNat)
  case atStart => exact ⟨0, Nat.zero_le _, rfl, rfl⟩
  case round =>
    obtain ⟨k, hk, rfl, ha⟩ := hrel
    by_cases hlt : k < s.size
    · cases hd : digB s[k] with
      | true =>
        have R := hid (all_step s k hlt hd ha)
        clear ha
        go_wp2_with (go_at_call 264; refine (isDecimal_c _ _).mono ?_; rintro e w' ⟨rfl, rfl⟩)
        go_round
        case rel => exact ⟨k + 1, hlt, by go_num, R.out⟩
        case measure => simp [intOf]; omega
      | false =>
        have R := hid (all_not s k hlt hd)
        clear ha
        go_wp2_with (go_at_call 264; refine (isDecimal_c _ _).mono ?_; rintro e w' ⟨rfl, rfl⟩)
        go_ret
        exact ⟨ret_bool R.out.symm, rfl⟩
    · rw [take_all s k hlt] at ha
      have R := hid (show allD s.data.toList = !s.toList.isEmpty by unfold allD; rw [ha, toList_eq, Bool.and_true])
      clear ha
      go_wp2_with fail
      go_ret
      exact ⟨ret_bool R.out.symm, rfl⟩

/-! ### a number's digits, counted -/
theorem valD_take (l : List UInt8) (k : Nat) : valD (l.take k) ≤ valD l := by
  have e : valD l = valD (l.take k) * 10 ^ (l.drop k).length + valD (l.drop k) := by
    have : valD l = valD (l.take k ++ l.drop k) := by rw [List.take_append_drop]
    rw [this]
    unfold valD
    rw [List.foldl_append, foldD]
    rfl
  have p : 1 ≤ 10 ^ (l.drop k).length := Nat.one_le_pow _ _ (by decide)
  have : valD (l.take k) * 1 ≤ valD (l.take k) * 10 ^ (l.drop k).length := Nat.mul_le_mul_left _ p
  omega
theorem valD_step (s : ByteArray) (k : Nat) (h : k < s.size) : valD (s.data.toList.take (k + 1)) = 10 * valD (s.data.toList.take k) + (s[k].toNat - 48) := by
  rw [take_snoc s k h, valD_snoc]
theorem dig_at (s : ByteArray) (h : s.data.toList.all digB = true) (k : Nat) (hk : k < s.size) : 48 ≤ s[k].toNat ∧ s[k].toNat ≤ 57 := by
  have := List.all_eq_true.1 h s[k] (by rw [← List.take_append_drop (k + 1) s.data.toList, take_snoc s k hk]; simp)
  exact of_decide_eq_true this
/-- what digits are read as, with a sign ahead or not -/
def limI (m : Bool) : Int := if m = true then 9223372036854775808 else 9223372036854775807
def valI (m : Bool) (d : List UInt8) : Int × Int := if (valD d : Int) ≤ limI m then ((if m = true then -(valD d : Int) else valD d), 0) else (0, 13)
theorem readD_val (m : Bool) (d : List UInt8) (h : formI m d = true) : readD m d = valI m d := by
  unfold readD valI limI
  rw [if_pos h]
  cases m
  · simp only [Bool.false_eq_true, if_false]
    by_cases g : valD d < 9223372036854775808
    · rw [if_pos g, if_pos (by omega)]
    · rw [if_neg g, if_neg (by omega)]
  · simp only [if_true]
    by_cases g : valD d ≤ 9223372036854775808
    · rw [if_pos g, if_pos (by omega)]
    · rw [if_neg g, if_neg (by omega)]
theorem sub48 (c : UInt8) (h : 48 ≤ c.toNat ∧ c.toNat ≤ 57) : IntKind.u64.wrap (IntKind.u8.wrap ((c.toNat : Int) - 48)) = (c.toNat : Int) - 48 := by
  rw [IntKind.wrap_u8, IntKind.wrap_u64]; omega
set_option maxHeartbeats 400000 in
theorem signedValue_c (s : ByteArray) (m : Bool) (hs : s.size ≤ maxLen) (hd : s.data.toList.all digB = true) (w : World) :
    Calls Tryz.prog 223 #[.string s, .bool m] w fun e w' => e = .returned (.tuple #[.int .i64 (valI m s.data.toList).1, .int .i64 (valI m s.data.toList).2]) ∧ w' = w := by
  unfold maxLen at hs
  have HD := hid hd
  clear hd
  cases m with
  | false =>
    go_enter Tryz.func223, Tryz.ntmps223
    go_wp2_with fail
    go_loop [7, 15] (fun v i => ∃ k : Nat, k ≤ s.size ∧ i = .int .i64 k ∧ v = .int .u64 (valD (s.data.toList.take k)) ∧ (valD (s.data.toList.take k) : Int) ≤ 9223372036854775807) (fun _ i => s.size - (intOf i).toNat)
    case atStart => exact ⟨0, Nat.zero_le _, rfl, rfl, by simp [valD]⟩
    case round =>
      obtain ⟨k, hk, rfl, rfl, hv⟩ := hrel
      by_cases hlt : k < s.size
      · obtain ⟨d0, d1⟩ := dig_at s HD.out k hlt
        have st := valD_step s k hlt
        have HT := hid (valD_take s.data.toList (k + 1))
        have e1 := sub48 s[k] ⟨d0, d1⟩
        by_cases hf : (valD (s.data.toList.take (k + 1)) : Int) ≤ 9223372036854775807
        · have HS := hid st
          have e3 : ¬ (9223372036854775807 - ((s[k].toNat : Int) - 48)).tdiv 10 < (valD (s.data.toList.take k) : Int) := by rw [Int.tdiv_eq_ediv_of_nonneg (by omega)]; omega
          have e3' : ¬ (9223372036854775807 - ((s[k].toNat : Int) - 48)) / 10 < (valD (s.data.toList.take k) : Int) := by omega
          have HF := hid hf
          clear st hf
          go_wp2_with fail
          go_round
          case rel => exact ⟨k + 1, hlt, by go_num, int_eq (by have := HS.out; have := HF.out; go_num), HF.out⟩
          case measure => simp [intOf]; omega
        · have e3 : (9223372036854775807 - ((s[k].toNat : Int) - 48)).tdiv 10 < (valD (s.data.toList.take k) : Int) := by rw [Int.tdiv_eq_ediv_of_nonneg (by omega)]; omega
          have e3' : (9223372036854775807 - ((s[k].toNat : Int) - 48)) / 10 < (valD (s.data.toList.take k) : Int) := by omega
          have HF := hid hf
          clear st hf
          go_wp2_with fail
          go_ret2
          have E : valI false s.data.toList = (0, 13) := by
            have := HT.out
            have := HF.out
            unfold valI limI
            rw [if_neg (by simp; omega)]
          exact ⟨ret_ii (by rw [E]) (by rw [E]), rfl⟩
      · rw [take_all s k hlt] at hv ⊢
        have HV := hid hv
        clear hv
        go_wp2_with fail
        go_ret2
        have E : valI false s.data.toList = ((valD s.data.toList : Int), 0) := by
          have := HV.out
          unfold valI limI
          rw [if_pos (by simp; omega)]
          rfl
        have := HV.out
        exact ⟨ret_ii (by rw [E]; simp only [wrap64]; omega) (by rw [E]), rfl⟩
  | true =>
    go_enter Tryz.func223, Tryz.ntmps223
    go_wp2_with fail
    go_loop [7, 15] (fun v i => ∃ k : Nat, k ≤ s.size ∧ i = .int .i64 k ∧ v = .int .u64 (valD (s.data.toList.take k)) ∧ (valD (s.data.toList.take k) : Int) ≤ 9223372036854775808) (fun _ i => s.size - (intOf i).toNat)
    case atStart => exact ⟨0, Nat.zero_le _, rfl, rfl, by simp [valD]⟩
    case round =>
      obtain ⟨k, hk, rfl, rfl, hv⟩ := hrel
      by_cases hlt : k < s.size
      · obtain ⟨d0, d1⟩ := dig_at s HD.out k hlt
        have st := valD_step s k hlt
        have HT := hid (valD_take s.data.toList (k + 1))
        have e1 := sub48 s[k] ⟨d0, d1⟩
        by_cases hf : (valD (s.data.toList.take (k + 1)) : Int) ≤ 9223372036854775808
        · have HS := hid st
          have e3 : ¬ (9223372036854775808 - ((s[k].toNat : Int) - 48)).tdiv 10 < (valD (s.data.toList.take k) : Int) := by rw [Int.tdiv_eq_ediv_of_nonneg (by omega)]; omega
          have e3' : ¬ (9223372036854775808 - ((s[k].toNat : Int) - 48)) / 10 < (valD (s.data.toList.take k) : Int) := by omega
          have HF := hid hf
          clear st hf
          go_wp2_with fail
          go_round
          case rel => exact ⟨k + 1, hlt, by go_num, int_eq (by have := HS.out; have := HF.out; go_num), HF.out⟩
          case measure => simp [intOf]; omega
        · have e3 : (9223372036854775808 - ((s[k].toNat : Int) - 48)).tdiv 10 < (valD (s.data.toList.take k) : Int) := by rw [Int.tdiv_eq_ediv_of_nonneg (by omega)]; omega
          have e3' : (9223372036854775808 - ((s[k].toNat : Int) - 48)) / 10 < (valD (s.data.toList.take k) : Int) := by omega
          have HF := hid hf
          clear st hf
          go_wp2_with fail
          go_ret2
          have E : valI true s.data.toList = (0, 13) := by
            have := HT.out
            have := HF.out
            unfold valI limI
            rw [if_neg (by simp; omega)]
          exact ⟨ret_ii (by rw [E]) (by rw [E]), rfl⟩
      · rw [take_all s k hlt] at hv ⊢
        have HV := hid hv
        clear hv
        go_wp2_with fail
        go_ret2
        have E : valI true s.data.toList = (-(valD s.data.toList : Int), 0) := by
          have := HV.out
          unfold valI limI
          rw [if_pos (by simp; omega)]
          rfl
        have := HV.out
        exact ⟨ret_ii (by rw [E]; simp only [wrap64, IntKind.wrap_u64]; omega) (by rw [E]), rfl⟩

/-! ### whole numbers -/
theorem int_c (i : Int) (h0 : -9223372036854775808 ≤ i) (h1 : i ≤ 9223372036854775807) (w : World) (ht : Tabs w) :
    Calls Tryz.prog 80 #[.int .i64 i] w fun e w' => e = .returned (.string ⟨(intT i).toArray⟩) ∧ Below w.heap.size w w' := by
  go_enter Tryz.func80, Tryz.ntmps80
  go_wp2_with (go_at_call 116; refine (formatInt_c i h0 h1 _ ht).mono ?_; rintro e w' ⟨rfl, hb⟩)
  go_ret
  exact ⟨rfl, hb⟩
/-- the digits behind a sign -/
def rest1 (l : List UInt8) : List UInt8 := match l with | 45 :: d => d | d => d
def minus1 (l : List UInt8) : Bool := match l with | 45 :: _ => true | _ => false
theorem rest_not (l : List UInt8) (h : ∀ d, l = 45 :: d → False) : minus1 l = false ∧ rest1 l = l := by
  unfold minus1 rest1
  constructor
  · split
    · rename_i e; exact (h _ rfl).elim
    · rfl
  · split
    · rename_i e; exact (h _ rfl).elim
    · rfl
theorem readI_rest (l : List UInt8) (h : l.length ≤ 64) : readI l = readD (minus1 l) (rest1 l) := by
  unfold readI
  rw [if_neg (by omega)]
  split
  · rfl
  · rename_i hn
    obtain ⟨e1, e2⟩ := rest_not l hn
    rw [e1, e2]
theorem form_rest (l : List UInt8) : formI (minus1 l) (rest1 l) = (allD (rest1 l) && !((rest1 l).head? == some 48 && !(l == [48]))) := by
  unfold formI allD
  congr 2
  cases l with
  | nil => rfl
  | cons c r =>
    by_cases h : c = 45
    · subst h
      have e : ((45 :: r : List UInt8) == [48]) = false := by rw [beq_eq_false_iff_ne]; intro e; injection e with e1 e2; revert e1; decide
      show (r.head? == some 48 && (decide (1 < r.length) || true)) = _
      rw [e, Bool.or_true]
      rfl
    · have e1 : rest1 (c :: r) = c :: r := by
        unfold rest1
        split
        · rename_i e1; injection e1 with e2 e3; exact absurd e2 h
        · rfl
      have e2 : minus1 (c :: r) = false := by
        unfold minus1
        split
        · rename_i e1; injection e1 with e2 e3; exact absurd e2 h
        · rfl
      rw [e1, e2, Bool.or_false]
      cases hc : ((c :: r).head? == some 48) with
      | false => rfl
      | true =>
        simp only [List.head?_cons] at hc
        have : c = 48 := by simpa using hc
        subst this
        cases r with
        | nil => rfl
        | cons d r => simp
theorem rest_len (l : List UInt8) : (rest1 l).length ≤ l.length := by
  unfold rest1
  split <;> simp
theorem cutMinus_c (s : ByteArray) (w : World) :
    Calls Tryz.prog 221 #[.string s, .string ⟨#[45]⟩] w fun e w' => e = .returned (.tuple #[.string ⟨(rest1 s.data.toList).toArray⟩, .bool (minus1 s.data.toList)]) ∧ w' = w := by
  obtain ⟨p1, p2⟩ := prefix_minus s.data.toList
  have h := cutPrefix_c s ⟨#[45]⟩ w
  have e1 : Lib.hasPrefix s.data.toList (⟨#[45]⟩ : ByteArray).data.toList = minus1 s.data.toList := p1
  have e2 : Lib.trimPrefix s.data.toList (⟨#[45]⟩ : ByteArray).data.toList = rest1 s.data.toList := p2
  rw [e1, e2] at h
  exact h
theorem head_at (D : ByteArray) (h : 0 < D.size) : (D.data.toList.head? == some 48) = ((D[0].toNat : Int) == 48) := by
  obtain ⟨⟨l⟩⟩ := D
  cases l with
  | nil => exact absurd h (by decide)
  | cons c r =>
    show (some c == some 48) = ((c.toNat : Int) == 48)
    rw [Bool.eq_iff_iff, beq_iff_eq, beq_iff_eq]
    constructor
    · intro e; injection e with e; subst e; rfl
    · intro e
      congr 1
      apply UInt8.toNat_inj.1
      have : c.toNat = 48 := by omega
      rw [this]; rfl
set_option maxHeartbeats 400000 in
theorem parseInt_core (s D : ByteArray) (m : Bool) (x e : Int) (w : World) (h64 : s.size ≤ 64) (hD : D.size ≤ 64)
    (hcut : ∀ w, Calls Tryz.prog 221 #[.string s, .string ⟨#[45]⟩] w fun e w' => e = .returned (.tuple #[.string D, .bool m]) ∧ w' = w)
    (hR : (allD D.data.toList = false ∧ x = 0 ∧ e = 20) ∨ (allD D.data.toList = true ∧ 0 < D.size ∧ ((∃ h : 0 < D.size, ((D[0].toNat : Int) == 48) = true) ∧ (s.toList == [48]) = false ∧ x = 0 ∧ e = 20 ∨
      ((∃ h : 0 < D.size, ((D[0].toNat : Int) == 48) = false) ∨ (∃ h : 0 < D.size, ((D[0].toNat : Int) == 48) = true) ∧ (s.toList == [48]) = true) ∧ x = (valI m D.data.toList).1 ∧ e = (valI m D.data.toList).2))) :
    Calls Tryz.prog 178 #[.string s] w fun r w' => r = .returned (.tuple #[.int .i64 x, .int .i64 e]) ∧ w' = w := by
  have ml : D.size ≤ maxLen := by unfold maxLen; omega
  rcases hR with ⟨h1, rfl, rfl⟩ | ⟨h1, hp, ⟨⟨_, h2⟩, h3, rfl, rfl⟩ | ⟨⟨_, h2⟩ | ⟨⟨_, h2⟩, h3⟩, rfl, rfl⟩⟩
  · go_enter Tryz.func178, Tryz.ntmps178
    go_wp2_with (first | (go_at_call 221; refine (hcut _).mono ?_; rintro e w' ⟨rfl, rfl⟩) | (go_at_call 222; refine (allDecimal_c _ ml _).mono ?_; rintro e w' ⟨rfl, rfl⟩))
    go_ret2
    exact ⟨rfl, rfl⟩
  · go_enter Tryz.func178, Tryz.ntmps178
    go_wp2_with (first | (go_at_call 221; refine (hcut _).mono ?_; rintro e w' ⟨rfl, rfl⟩) | (go_at_call 222; refine (allDecimal_c _ ml _).mono ?_; rintro e w' ⟨rfl, rfl⟩))
    go_ret2
    exact ⟨rfl, rfl⟩
  · have hd : D.data.toList.all digB = true := by unfold allD at h1; rw [Bool.and_eq_true] at h1; exact h1.2
    have c := signedValue_c D m ml hd
    clear hd
    go_enter Tryz.func178, Tryz.ntmps178
    go_wp2_with (first | (go_at_call 221; refine (hcut _).mono ?_; rintro e w' ⟨rfl, rfl⟩) | (go_at_call 222; refine (allDecimal_c _ ml _).mono ?_; rintro e w' ⟨rfl, rfl⟩) | (go_at_call 223; refine (c _).mono ?_; rintro e w' ⟨rfl, rfl⟩))
    go_ret2
    exact ⟨rfl, rfl⟩
  · have hd : D.data.toList.all digB = true := by unfold allD at h1; rw [Bool.and_eq_true] at h1; exact h1.2
    have c := signedValue_c D m ml hd
    clear hd
    go_enter Tryz.func178, Tryz.ntmps178
    go_wp2_with (first | (go_at_call 221; refine (hcut _).mono ?_; rintro e w' ⟨rfl, rfl⟩) | (go_at_call 222; refine (allDecimal_c _ ml _).mono ?_; rintro e w' ⟨rfl, rfl⟩) | (go_at_call 223; refine (c _).mono ?_; rintro e w' ⟨rfl, rfl⟩))
    go_ret2
    exact ⟨rfl, rfl⟩
set_option maxHeartbeats 400000 in
theorem parseInt_c (s : ByteArray) (hs : s.size ≤ maxLen) (w : World) :
    Calls Tryz.prog 178 #[.string s] w fun e w' => e = .returned (.tuple #[.int .i64 (readI s.data.toList).1, .int .i64 (readI s.data.toList).2]) ∧ w' = w := by
  unfold maxLen at hs
  have sl := size_list s
  by_cases c : s.size ≤ 64
  · have er := readI_rest s.data.toList (by omega)
    have ef := form_rest s.data.toList
    have rl := rest_len s.data.toList
    have hc := cutMinus_c s
    obtain ⟨D, hD⟩ : ∃ D : ByteArray, D = ⟨(rest1 s.data.toList).toArray⟩ := ⟨_, rfl⟩
    have hDl : D.data.toList = rest1 s.data.toList := by rw [hD]
    have hDs := size_list D
    rw [← hD] at hc
    rw [← hDl] at ef er rl
    refine parseInt_core s D _ _ _ w c (by omega) hc ?_
    rw [er]
    cases ha : allD D.data.toList with
    | false =>
      rw [ha, Bool.false_and] at ef
      unfold readD
      rw [if_neg (by rw [ef]; decide)]
      exact Or.inl ⟨rfl, rfl, rfl⟩
    | true =>
      have hp : 0 < D.size := by
        unfold allD at ha
        rw [Bool.and_eq_true] at ha
        have : D.data.toList ≠ [] := by simpa using ha.1
        have := List.length_pos_iff.2 this
        omega
      rw [ha, Bool.true_and, head_at D hp] at ef
      have es : (s.toList == [48]) = (s.data.toList == [48]) := by rw [toList_eq]
      refine Or.inr ⟨rfl, hp, ?_⟩
      rw [es]
      cases hh : ((D[0].toNat : Int) == 48) with
      | false =>
        rw [hh] at ef
        rw [readD_val _ _ ef]
        exact Or.inr ⟨Or.inl ⟨hp, hh⟩, rfl, rfl⟩
      | true =>
        cases h0 : (s.data.toList == [48]) with
        | true =>
          rw [hh, h0] at ef
          rw [readD_val _ _ ef]
          exact Or.inr ⟨Or.inr ⟨⟨hp, hh⟩, rfl⟩, rfl, rfl⟩
        | false =>
          rw [hh, h0] at ef
          unfold readD
          rw [if_neg (by rw [ef]; decide)]
          exact Or.inl ⟨⟨hp, hh⟩, rfl, rfl, rfl⟩
  · have E : readI s.data.toList = (0, 2) := by unfold readI; rw [if_pos (by omega)]
    have H := hid E
    clear E
    go_enter Tryz.func178, Tryz.ntmps178
    go_wp2_with fail
    go_ret2
    exact ⟨ret_ii (by rw [H.out]) (by rw [H.out]), rfl⟩
end Go.Proofs.YtdncdddaobemaaaGreatDoor.W.Nu.Q
/- Contracts of package numtext: the power behind the digits; names instead of digits. -/
namespace Go.Proofs.YtdncdddaobemaaaGreatDoor.W.Nu.Q
open Go.ChangeShapes Go.WideShapes Go.RowKit

theorem prefix_two (l : List UInt8) (a b : UInt8) : (Lib.hasPrefix l [a, b] = true ∧ l = a :: b :: Lib.trimPrefix l [a, b]) ∨ (Lib.hasPrefix l [a, b] = false ∧ Lib.trimPrefix l [a, b] = l ∧ ∀ r, l ≠ a :: b :: r) := by
  unfold Lib.trimPrefix Lib.hasPrefix
  by_cases h : ∃ r, l = a :: b :: r
  · obtain ⟨r, rfl⟩ := h
    refine Or.inl ⟨by simp [List.isPrefixOf], ?_⟩
    simp [List.isPrefixOf]
  · refine Or.inr ?_
    have e : List.isPrefixOf [a, b] l = false := by
      rw [Bool.eq_false_iff]
      intro e
      rw [List.isPrefixOf_iff_prefix] at e
      obtain ⟨r, hr⟩ := e
      exact h ⟨r, hr.symm⟩
    rw [e]
    exact ⟨rfl, rfl, fun r hr => h ⟨r, hr⟩⟩
/-- the power that a text from its p on says; or none -/
def powR (r : List UInt8) : Option Int :=
  match r with
  | 112 :: sg :: ds => if (sg = 43 ∨ sg = 45) ∧ ds ≠ [] ∧ ds.length ≤ 5 ∧ ds.all digB = true then some (if sg = 45 then -(valD ds : Int) else valD ds) else none
  | _ => none
theorem readPow_powR (N b : Nat) (r : List UInt8) : readPow N b r = (powR r).map fun p => (N, p - 4 * (b : Int)) := by
  unfold readPow powR
  split
  · rename_i sg ds
    by_cases h : (sg = 43 ∨ sg = 45) ∧ ds ≠ [] ∧ ds.length ≤ 5 ∧ ds.all digB = true
    · simp only [if_pos h]; rfl
    · simp only [if_neg h]; rfl
  · rename_i hn
    split
    · exact (hn _ _ rfl).elim
    · rfl
theorem powR_ok (sg : UInt8) (ds : List UInt8) (h1 : sg = 43 ∨ sg = 45) : powR (112 :: sg :: ds) = if allD ds = true ∧ ds.length ≤ 5 then some (if sg = 45 then -(valD ds : Int) else valD ds) else none := by
  unfold powR allD
  have e : ((sg = 43 ∨ sg = 45) ∧ ds ≠ [] ∧ ds.length ≤ 5 ∧ ds.all digB = true) ↔ ((!ds.isEmpty && ds.all digB) = true ∧ ds.length ≤ 5) := by
    rw [Bool.and_eq_true]
    constructor
    · rintro ⟨-, a, b, c⟩
      exact ⟨⟨by simpa using a, c⟩, b⟩
    · rintro ⟨⟨a, c⟩, b⟩
      exact ⟨h1, by simpa using a, b, c⟩
  by_cases h : (sg = 43 ∨ sg = 45) ∧ ds ≠ [] ∧ ds.length ≤ 5 ∧ ds.all digB = true
  · simp only [if_pos h, if_pos (e.1 h)]
  · simp only [if_neg h, if_neg (fun g => h (e.2 g))]
theorem powR_no (r : List UInt8) (h1 : ∀ d, r ≠ 112 :: 43 :: d) (h2 : ∀ d, r ≠ 112 :: 45 :: d) : powR r = none := by
  unfold powR
  split
  · rename_i sg ds
    rw [if_neg]
    rintro ⟨e | e, -⟩
    · exact h1 ds (by rw [e])
    · exact h2 ds (by rw [e])
  · rfl
theorem valD_small (s : ByteArray) (h : s.data.toList.all digB = true) (hs : s.size ≤ 5) (k : Nat) : valD (s.data.toList.take k) < 100000 := by
  have h1 := valD_take s.data.toList k
  have h2 := valD_le s.data.toList (fun c hc => of_decide_eq_true (List.all_eq_true.1 h c hc))
  have h3 : 10 ^ s.data.toList.length ≤ 10 ^ 5 := Nat.pow_le_pow_right (by decide) (by rw [size_list]; omega)
  have h4 : (10 : Nat) ^ 5 = 100000 := by decide
  omega
theorem sub48i (c : UInt8) (h : 48 ≤ c.toNat ∧ c.toNat ≤ 57) : IntKind.i64.wrap (IntKind.u8.wrap ((c.toNat : Int) - 48)) = (c.toNat : Int) - 48 := by
  rw [IntKind.wrap_u8, IntKind.wrap_i64]; omega
/-- what is answered of the digits behind p and a sign -/
def powAns (m : Bool) (l : List UInt8) : Value := if allD l = true ∧ l.length ≤ 5 then .tuple #[.int .i64 (if m = true then -(valD l : Int) else valD l), .bool true] else .tuple #[.int .i64 0, .bool false]
theorem powAns_no (m : Bool) (l : List UInt8) (h : ¬ (allD l = true ∧ l.length ≤ 5)) : powAns m l = .tuple #[.int .i64 0, .bool false] := by unfold powAns; rw [if_neg h]
theorem powAns_yes (m : Bool) (l : List UInt8) (h : allD l = true ∧ l.length ≤ 5) : powAns m l = .tuple #[.int .i64 (if m = true then -(valD l : Int) else valD l), .bool true] := by unfold powAns; rw [if_pos h]
set_option maxHeartbeats 400000 in
theorem readPower_plus (s D : ByteArray) (w : World) (hD : D.size ≤ maxLen)
    (c1 : ∀ w, Calls Tryz.prog 221 #[.string s, .string ⟨#[112, 43]⟩] w fun e w' => e = .returned (.tuple #[.string D, .bool true]) ∧ w' = w) :
    Calls Tryz.prog 261 #[.string s] w fun e w' => e = .returned (powAns false D.data.toList) ∧ w' = w := by
  have sz := size_list D
  by_cases h5 : D.size ≤ 5
  · cases ha : allD D.data.toList with
    | false =>
      have H := hid (powAns_no false D.data.toList (by rw [ha]; rintro ⟨h, -⟩; cases h))
      go_enter Tryz.func261, Tryz.ntmps261
      go_wp2_with (first | (go_at_call 221; (with_reducible refine (c1 _).mono ?_); rintro e w' ⟨rfl, rfl⟩) | (go_at_call 222; (with_reducible refine (allDecimal_c _ hD _).mono ?_); rintro e w' ⟨rfl, rfl⟩))
      go_ret2
      exact ⟨by rw [H.out]; rfl, rfl⟩
    | true =>
      have hd : D.data.toList.all digB = true := by unfold allD at ha; rw [Bool.and_eq_true] at ha; exact ha.2
      have HD := hid hd
      have H := hid (powAns_yes false D.data.toList ⟨ha, by omega⟩)
      clear hd
      go_enter Tryz.func261, Tryz.ntmps261
      go_wp2_with (first | (go_at_call 221; (with_reducible refine (c1 _).mono ?_); rintro e w' ⟨rfl, rfl⟩) | (go_at_call 222; (with_reducible refine (allDecimal_c _ hD _).mono ?_); rintro e w' ⟨rfl, rfl⟩))
      go_loop [7, 33] (fun v i => ∃ k : Nat, k ≤ D.size ∧ i = .int .i64 k ∧ v = .int .i64 (valD (D.data.toList.take k))) (fun _ i => D.size - (intOf i).toNat)
      case atStart => exact ⟨0, Nat.zero_le _, rfl, rfl⟩
      case round =>
        obtain ⟨k, hk, rfl, rfl⟩ := hrel
        by_cases hlt : k < D.size
        · obtain ⟨d0, d1⟩ := dig_at D HD.out k hlt
          have HS := hid (valD_step D k hlt)
          have e1 := sub48i D[k] ⟨d0, d1⟩
          have hv := valD_small D HD.out h5 k
          go_wp2_with fail
          go_round
          case rel => exact ⟨k + 1, hlt, by go_num, int_eq (by have := HS.out; go_num)⟩
          case measure => simp [intOf]; omega
        · have hv := valD_small D HD.out h5 k
          rw [take_all D k hlt] at hv ⊢
          go_wp2_with fail
          go_ret2
          refine ⟨?_, rfl⟩
          rw [H.out]
          exact ret_ib (by rw [if_neg (by decide)]) rfl
  · go_enter Tryz.func261, Tryz.ntmps261
    have H := hid (powAns_no false D.data.toList (by rintro ⟨-, h⟩; omega))
    go_wp2_with (first | (go_at_call 221; (with_reducible refine (c1 _).mono ?_); rintro e w' ⟨rfl, rfl⟩) | (go_at_call 222; (with_reducible refine (allDecimal_c _ hD _).mono ?_); rintro e w' ⟨rfl, rfl⟩))
    go_ret2
    exact ⟨by rw [H.out]; rfl, rfl⟩
set_option maxHeartbeats 400000 in
theorem readPower_minus (s D D0 : ByteArray) (w : World) (hD : D.size ≤ maxLen)
    (c1 : ∀ w, Calls Tryz.prog 221 #[.string s, .string ⟨#[112, 43]⟩] w fun e w' => e = .returned (.tuple #[.string D0, .bool false]) ∧ w' = w)
    (c2 : ∀ w, Calls Tryz.prog 221 #[.string s, .string ⟨#[112, 45]⟩] w fun e w' => e = .returned (.tuple #[.string D, .bool true]) ∧ w' = w) :
    Calls Tryz.prog 261 #[.string s] w fun e w' => e = .returned (powAns true D.data.toList) ∧ w' = w := by
  have sz := size_list D
  by_cases h5 : D.size ≤ 5
  · cases ha : allD D.data.toList with
    | false =>
      have H := hid (powAns_no true D.data.toList (by rw [ha]; rintro ⟨h, -⟩; cases h))
      go_enter Tryz.func261, Tryz.ntmps261
      go_wp2_with (first | (go_at_call 221; (first | (with_reducible refine (c1 _).mono ?_) | (with_reducible refine (c2 _).mono ?_)); rintro e w' ⟨rfl, rfl⟩) | (go_at_call 222; (with_reducible refine (allDecimal_c _ hD _).mono ?_); rintro e w' ⟨rfl, rfl⟩))
      go_ret2
      exact ⟨by rw [H.out]; rfl, rfl⟩
    | true =>
      have hd : D.data.toList.all digB = true := by unfold allD at ha; rw [Bool.and_eq_true] at ha; exact ha.2
      have HD := hid hd
      have H := hid (powAns_yes true D.data.toList ⟨ha, by omega⟩)
      clear hd
      go_enter Tryz.func261, Tryz.ntmps261
      go_wp2_with (first | (go_at_call 221; (first | (with_reducible refine (c1 _).mono ?_) | (with_reducible refine (c2 _).mono ?_)); rintro e w' ⟨rfl, rfl⟩) | (go_at_call 222; (with_reducible refine (allDecimal_c _ hD _).mono ?_); rintro e w' ⟨rfl, rfl⟩))
      go_loop [7, 33] (fun v i => ∃ k : Nat, k ≤ D.size ∧ i = .int .i64 k ∧ v = .int .i64 (valD (D.data.toList.take k))) (fun _ i => D.size - (intOf i).toNat)
      case atStart => exact ⟨0, Nat.zero_le _, rfl, rfl⟩
      case round =>
        obtain ⟨k, hk, rfl, rfl⟩ := hrel
        by_cases hlt : k < D.size
        · obtain ⟨d0, d1⟩ := dig_at D HD.out k hlt
          have HS := hid (valD_step D k hlt)
          have e1 := sub48i D[k] ⟨d0, d1⟩
          have hv := valD_small D HD.out h5 k
          go_wp2_with fail
          go_round
          case rel => exact ⟨k + 1, hlt, by go_num, int_eq (by have := HS.out; go_num)⟩
          case measure => simp [intOf]; omega
        · have hv := valD_small D HD.out h5 k
          rw [take_all D k hlt] at hv ⊢
          go_wp2_with fail
          go_ret2
          refine ⟨?_, rfl⟩
          rw [H.out]
          exact ret_ib (by rw [if_pos trivial]) rfl
  · go_enter Tryz.func261, Tryz.ntmps261
    have H := hid (powAns_no true D.data.toList (by rintro ⟨-, h⟩; omega))
    go_wp2_with (first | (go_at_call 221; (first | (with_reducible refine (c1 _).mono ?_) | (with_reducible refine (c2 _).mono ?_)); rintro e w' ⟨rfl, rfl⟩) | (go_at_call 222; (with_reducible refine (allDecimal_c _ hD _).mono ?_); rintro e w' ⟨rfl, rfl⟩))
    go_ret2
    exact ⟨by rw [H.out]; rfl, rfl⟩
set_option maxHeartbeats 400000 in
theorem readPower_none (s D0 D1 : ByteArray) (w : World)
    (c1 : ∀ w, Calls Tryz.prog 221 #[.string s, .string ⟨#[112, 43]⟩] w fun e w' => e = .returned (.tuple #[.string D0, .bool false]) ∧ w' = w)
    (c2 : ∀ w, Calls Tryz.prog 221 #[.string s, .string ⟨#[112, 45]⟩] w fun e w' => e = .returned (.tuple #[.string D1, .bool false]) ∧ w' = w) :
    Calls Tryz.prog 261 #[.string s] w fun e w' => e = .returned (.tuple #[.int .i64 0, .bool false]) ∧ w' = w := by
  go_enter Tryz.func261, Tryz.ntmps261
  go_wp2_with (go_at_call 221; (first | (with_reducible refine (c1 _).mono ?_) | (with_reducible refine (c2 _).mono ?_)); rintro e w' ⟨rfl, rfl⟩)
  go_ret2
  exact ⟨rfl, rfl⟩
theorem readPower_c (s : ByteArray) (hs : s.size ≤ maxLen) (w : World) :
    Calls Tryz.prog 261 #[.string s] w fun e w' => e = .returned (.tuple #[.int .i64 ((powR s.data.toList).getD 0), .bool (powR s.data.toList).isSome]) ∧ w' = w := by
  have k1 := fun w => cutPrefix_c s ⟨#[112, 43]⟩ w
  have k2 := fun w => cutPrefix_c s ⟨#[112, 45]⟩ w
  have sz := size_list s
  rcases prefix_two s.data.toList 112 43 with ⟨h1, h2⟩ | ⟨h1, h2, h3⟩
  · have e1 : Lib.hasPrefix s.data.toList (⟨#[112, 43]⟩ : ByteArray).data.toList = true := h1
    generalize hd : Lib.trimPrefix s.data.toList [112, 43] = d at h2
    have e2 : Lib.trimPrefix s.data.toList (⟨#[112, 43]⟩ : ByteArray).data.toList = d := hd
    rw [e1, e2] at k1
    have hsz : (⟨d.toArray⟩ : ByteArray).size = d.length := by rw [← size_list]
    refine (readPower_plus s ⟨d.toArray⟩ w (by rw [hsz]; rw [h2] at sz; simp at sz; omega) k1).mono ?_
    rintro e w' ⟨rfl, rfl⟩
    refine ⟨?_, rfl⟩
    rw [h2, powR_ok 43 d (Or.inl rfl)]
    show Ending.returned (powAns false d) = _
    by_cases g : allD d = true ∧ d.length ≤ 5
    · rw [powAns_yes _ _ g, if_pos g]; rfl
    · rw [powAns_no _ _ g, if_neg g]; rfl
  · have e1 : Lib.hasPrefix s.data.toList (⟨#[112, 43]⟩ : ByteArray).data.toList = false := h1
    rw [e1] at k1
    rcases prefix_two s.data.toList 112 45 with ⟨g1, g2⟩ | ⟨g1, g2, g3⟩
    · have e1 : Lib.hasPrefix s.data.toList (⟨#[112, 45]⟩ : ByteArray).data.toList = true := g1
      generalize hd : Lib.trimPrefix s.data.toList [112, 45] = d at g2
      have e2 : Lib.trimPrefix s.data.toList (⟨#[112, 45]⟩ : ByteArray).data.toList = d := hd
      rw [e1, e2] at k2
      have hsz : (⟨d.toArray⟩ : ByteArray).size = d.length := by rw [← size_list]
      refine (readPower_minus s ⟨d.toArray⟩ _ w (by rw [hsz]; rw [g2] at sz; simp at sz; omega) k1 k2).mono ?_
      rintro e w' ⟨rfl, rfl⟩
      refine ⟨?_, rfl⟩
      rw [g2, powR_ok 45 d (Or.inr rfl)]
      show Ending.returned (powAns true d) = _
      by_cases g : allD d = true ∧ d.length ≤ 5
      · rw [powAns_yes _ _ g, if_pos g]; rfl
      · rw [powAns_no _ _ g, if_neg g]; rfl
    · have e1 : Lib.hasPrefix s.data.toList (⟨#[112, 45]⟩ : ByteArray).data.toList = false := g1
      rw [e1] at k2
      refine (readPower_none s _ _ w k1 k2).mono ?_
      rintro e w' ⟨rfl, rfl⟩
      refine ⟨?_, rfl⟩
      rw [powR_no _ h3 g3]; rfl
end Go.Proofs.YtdncdddaobemaaaGreatDoor.W.Nu.Q
/- Contracts of package numtext: a digit set behind a value; hexadecimal digits read one by one. -/
namespace Go.Proofs.YtdncdddaobemaaaGreatDoor.W.Nu.Q
open Go.ChangeShapes Go.WideShapes Go.RowKit

/-- one cell of a block, written -/
theorem set_at {w : World} {b k : Nat} {c : Array Value} (f : ∀ i, w.cell? ⟨b, i, none⟩ = c[i]?) (x : Value) (hk : k < c.size) (j : Nat) : (w.setCell ⟨b, k, none⟩ x).cell? ⟨b, j, none⟩ = (c.set k x hk)[j]? := by
  by_cases h : k = j
  · subst h
    have s0 : w.cell? ⟨b, k, none⟩ = some c[k] := by rw [f k, Array.getElem?_eq_getElem hk]
    rw [World.cell?_setCell_same (h := s0), Array.getElem?_set_self]
  · rw [World.cell?_setCell_other (h := by intro e; injection e with e1 e2; exact h e2), f j, Array.getElem?_set_ne _ h]
theorem or_digit (a d k : Nat) (hk : 4 ≤ k) (hd : d < 16) (ha : a % 2 ^ k = 0) (h : a < 18446744073709551616) : bits .or .u64 (a : Int) (d : Int) = ((a + d : Nat) : Int) := by
  have p : 2 ^ 4 ≤ 2 ^ k := Nat.pow_le_pow_right (by decide) hk
  rw [u64_or_nat _ _ (by omega) (by omega), nat_join k a d ha (by omega)]
set_option maxHeartbeats 400000 in
theorem push_core (b : Nat) (v z d p sh v1 v2 : Int) (wd : Bool) (w : World) (hcell : ∀ i, w.cell? ⟨b, i, none⟩ = #[Value.int .u64 v, .int .i64 p, .bool wd][i]?) (hfz : ∀ i, w.frozen? ⟨b, i, none⟩ = false)
    (z0 : 0 ≤ z) (z1 : z ≤ 100) (hsh : 4 * (z + 1) = sh) (hv0 : 0 ≤ v) (hv1 : v < 18446744073709551616) (h1 : IntKind.u64.wrap (v * 2 ^ sh.toNat) = v1) (h2 : bits .or .u64 v1 d = v2) (hw : v = 0 ∨ (0 < v ∧ (v.toNat.log2 : Int) + 1 + sh ≤ 64)) :
    Calls Tryz.prog 289 #[.pointer (some ⟨b, 0, none⟩), .int .i64 z, .int .u64 d] w fun e w' => e = .returned (.tuple #[]) ∧ w' = w.setCell ⟨b, 0, none⟩ (.int .u64 v2) := by
  have c0 := hcell 0
  have f0 := hfz 0
  simp at c0
  have e1 : IntKind.i64.wrap (4 * (z + 1)) = sh := by rw [IntKind.wrap_i64]; omega
  have s0 : ¬ sh < 0 := by omega
  rcases hw with h | ⟨hv, hl⟩
  · subst h
    rw [Int.zero_mul] at h1
    have e0 : v1 = 0 := by rw [← h1]; rfl
    subst e0
    clear h1
    go_enter Tryz.func289, Tryz.ntmps289
    go_wp2_with fail
    go_end0
    exact ⟨rfl, rfl⟩
  · have c := len64_c v hv hv1
    have n0 : ¬ v = 0 := by omega
    have n1 : ¬ 64 < (v.toNat.log2 : Int) + 1 + sh := by omega
    have n2 : IntKind.i64.wrap ((v.toNat.log2 : Int) + 1 + sh) = (v.toNat.log2 : Int) + 1 + sh := by rw [IntKind.wrap_i64]; omega
    have n3 : min sh.toNat 64 = sh.toNat := by omega
    generalize (v.toNat.log2 : Int) = g at *
    clear hl hv
    go_enter Tryz.func289, Tryz.ntmps289
    go_wp2_with (go_at_call 187; refine (c _).mono ?_; rintro e w' ⟨rfl, rfl⟩)
    go_end0
    exact ⟨rfl, rfl⟩
set_option maxHeartbeats 400000 in
theorem push_over (b : Nat) (v z d p sh : Int) (wd : Bool) (w : World) (hcell : ∀ i, w.cell? ⟨b, i, none⟩ = #[Value.int .u64 v, .int .i64 p, .bool wd][i]?) (hfz : ∀ i, w.frozen? ⟨b, i, none⟩ = false)
    (z0 : 0 ≤ z) (z1 : z ≤ 100) (hsh : 4 * (z + 1) = sh) (hv0 : 0 < v) (hv1 : v < 18446744073709551616) (hw : 64 < (v.toNat.log2 : Int) + 1 + sh) :
    Calls Tryz.prog 289 #[.pointer (some ⟨b, 0, none⟩), .int .i64 z, .int .u64 d] w fun e w' => e = .returned (.tuple #[]) ∧ w' = w.setCell ⟨b, 2, none⟩ (.bool true) := by
  have c0 := hcell 0
  have c2 := hcell 2
  have f2 := hfz 2
  simp at c0 c2
  have e1 : IntKind.i64.wrap (4 * (z + 1)) = sh := by rw [IntKind.wrap_i64]; omega
  have c := len64_c v hv0 hv1
  have lg : v.toNat.log2 ≤ 63 := by
    apply Nat.le_of_not_lt
    intro hh
    have : 2 ^ 64 ≤ 2 ^ v.toNat.log2 := Nat.pow_le_pow_right (by decide) hh
    have := (high_le (n := v.toNat) (by omega)).1
    omega
  have n0 : ¬ v = 0 := by omega
  have n2 : IntKind.i64.wrap ((v.toNat.log2 : Int) + 1 + sh) = (v.toNat.log2 : Int) + 1 + sh := by rw [IntKind.wrap_i64]; omega
  generalize (v.toNat.log2 : Int) = g at *
  clear lg
  go_enter Tryz.func289, Tryz.ntmps289
  go_wp2_with (go_at_call 187; refine (c _).mono ?_; rintro e w' ⟨rfl, rfl⟩)
  refine bodyPost_ret (results_none rfl _ _ _) rfl ?_
  exact ⟨rfl, rfl⟩
/-- a digit set behind the value: what it leaves -/
theorem push_c (b : Nat) (D : List UInt8) (v z : Nat) (c : UInt8) (d : Nat) (p : Int) (wd : Bool) (w : World) (hcell : ∀ i, w.cell? ⟨b, i, none⟩ = #[Value.int .u64 v, .int .i64 p, .bool wd][i]?) (hfz : ∀ i, w.frozen? ⟨b, i, none⟩ = false)
    (hD : Dig D v z wd) (hc : hexV c = d) (hd : d ≠ 0) (z1 : z ≤ 100) :
    Calls Tryz.prog 289 #[.pointer (some ⟨b, 0, none⟩), .int .i64 z, .int .u64 d] w fun e w' => e = .returned (.tuple #[]) ∧ ∃ (i : Nat) (x : Value) (v' : Nat) (wd' : Bool), w' = w.setCell ⟨b, i, none⟩ x ∧ (∀ j, w'.cell? ⟨b, j, none⟩ = #[Value.int .u64 v', .int .i64 p, .bool wd'][j]?) ∧ Dig (D ++ [c]) v' 0 wd' := by
  have hv := hD.1
  have d16 : d < 16 := by have := hexV_range c; omega
  by_cases hw : v = 0 ∨ v.log2 + 1 + 4 * (z + 1) ≤ 64
  · obtain ⟨f1, f2⟩ := fits_make v z d d16 hw
    refine (push_core b v z d p (4 * (z + 1)) ((v * 2 ^ (4 * (z + 1)) : Nat) : Int) ((v * 2 ^ (4 * (z + 1)) + d : Nat) : Int) wd w hcell hfz (by omega) (by omega) rfl (by omega) (by omega) ?_ ?_ ?_).mono ?_
    · have e : (4 * ((z : Int) + 1)).toNat = 4 * (z + 1) := by omega
      have e2 : (v : Int) * 2 ^ (4 * (z + 1)) = ((v * 2 ^ (4 * (z + 1)) : Nat) : Int) := by simp
      rw [e, e2, IntKind.wrap_u64]
      omega
    · exact or_digit _ d (4 * (z + 1)) (by omega) d16 (Nat.mul_mod_left _ _) (by omega)
    · rcases hw with h | h
      · exact Or.inl (by omega)
      · by_cases h0 : v = 0
        · exact Or.inl (by omega)
        · exact Or.inr ⟨by omega, by rw [Int.toNat_natCast]; omega⟩
    · rintro e w' ⟨rfl, rfl⟩
      exact ⟨rfl, 0, _, _, wd, rfl, set_at hcell _ (show 0 < 3 by decide), hD.fits c d hc hw⟩
  · refine (push_over b v z d p (4 * (z + 1)) wd w hcell hfz (by omega) (by omega) rfl (by omega) (by omega) (by rw [Int.toNat_natCast]; omega)).mono ?_
    rintro e w' ⟨rfl, rfl⟩
    exact ⟨rfl, 2, _, v, true, rfl, set_at hcell _ (show 2 < 3 by decide), hD.over c d hc hd (by omega) (by omega)⟩
end Go.Proofs.YtdncdddaobemaaaGreatDoor.W.Nu.Q
/- Contract of package numtext: hexadecimal digits, with a point or none, read one by one. -/
namespace Go.Proofs.YtdncdddaobemaaaGreatDoor.W.Nu.Q
open Go.ChangeShapes Go.WideShapes Go.RowKit

/-- what is answered of digits: a value, a power, or that there are too many; and what stands behind them -/
def DigAns (l : List UInt8) (v p : Int) (wd : Bool) (r : List UInt8) (ok : Bool) : Prop :=
  (ok = false ∧ readBody l = none) ∨
  (ok = true ∧ 0 ≤ v ∧ v < 18446744073709551616 ∧ -1000 ≤ p ∧ p ≤ 1000 ∧ r.length ≤ l.length ∧ ∃ (D : List UInt8) (b : Nat), readBody l = readPow (valH D) b r ∧ ∀ pw : Int, exactP (valH D) (pw - 4 * b) = numP v.toNat wd (pw + p))
theorem hex_none {c : UInt8} (h : hexV c = -1) : hexB c = false := by unfold hexB; rw [h]; decide
theorem hex_some {c : UInt8} (h : 0 ≤ hexV c) : hexB c = true := by unfold hexB; exact decide_eq_true h
theorem dot_int (c : UInt8) : ((c.toNat : Int) == 46) = (c == 46) := by
  rw [Bool.eq_iff_iff, beq_iff_eq, beq_iff_eq]
  constructor
  · intro e
    apply UInt8.toNat_inj.1
    have : c.toNat = 46 := by omega
    rw [this]; rfl
  · intro e; subst e; rfl
theorem drop_head (s : ByteArray) (k : Nat) (h : k < s.size) : (s.data.toList.drop k).head? = some s[k] := by
  rw [List.head?_drop]
  rw [List.getElem?_eq_getElem (by rw [size_list]; exact h)]
  rfl
/-- what the loop leaves -/
structure Scan (s : ByteArray) (k : Nat) (point : Int) (D : List UInt8) (v z : Nat) (wd : Bool) : Prop where
  le : k ≤ s.size
  place : Place (s.data.toList.take k) point D
  dig : Dig D v z wd
theorem Scan.bounds {s : ByteArray} {k : Nat} {point : Int} {D : List UInt8} {v z : Nat} {wd : Bool} (h : Scan s k point D v z wd) : -1 ≤ point ∧ point + 1 ≤ k ∧ z ≤ k ∧ D.length ≤ k := by
  obtain ⟨h1, h2, h3⟩ := h
  have hl : (s.data.toList.take k).length = k := by rw [List.length_take, size_list]; omega
  have hz := h3.2.1
  rcases h2 with ⟨a, b, c⟩ | ⟨A, B, a, b, c, d, e⟩
  · rw [b, hl] at hz
    exact ⟨by omega, by omega, hz, by rw [b, hl]; exact Nat.le_refl _⟩
  · have : A.length + 1 + B.length = k := by rw [← hl, a]; simp; omega
    have hD : D.length = A.length + B.length := by rw [b]; simp
    exact ⟨by omega, by omega, by omega, by omega⟩
theorem Scan.dot {s : ByteArray} {k : Nat} {point : Int} {D : List UInt8} {v z : Nat} {wd : Bool} (h : Scan s k point D v z wd) (hk : k < s.size) (hc : s[k] = 46) (hp : point < 0) : Scan s (k + 1) k D v z wd := by
  have hl : (s.data.toList.take k).length = k := by rw [List.length_take, size_list]; have := h.le; omega
  have hpl := (h.place.point hp).1
  rw [hl] at hpl
  exact ⟨hk, by rw [take_snoc s k hk, hc]; exact hpl, h.dig⟩
theorem Scan.nought {s : ByteArray} {k : Nat} {point : Int} {D : List UInt8} {v z : Nat} {wd : Bool} (h : Scan s k point D v z wd) (hk : k < s.size) (hx : hexV s[k] = 0) : Scan s (k + 1) point (D ++ [s[k]]) v (z + 1) wd :=
  ⟨hk, by rw [take_snoc s k hk]; exact h.place.digit _ (hex_some (by omega)), h.dig.nought _ hx⟩
theorem Scan.digit {s : ByteArray} {k : Nat} {point : Int} {D : List UInt8} {v z v' : Nat} {wd wd' : Bool} (h : Scan s k point D v z wd) (hk : k < s.size) (hx : 0 ≤ hexV s[k]) (hD : Dig (D ++ [s[k]]) v' 0 wd') : Scan s (k + 1) point (D ++ [s[k]]) v' 0 wd' :=
  ⟨hk, by rw [take_snoc s k hk]; exact h.place.digit _ (hex_some hx), hD⟩
theorem Scan.answer {s : ByteArray} {k : Nat} {point : Int} {D : List UInt8} {v z : Nat} {wd : Bool} (h : Scan s k point D v z wd) (hs : s.size ≤ 64) (hst : stopB point (s.data.toList.drop k)) (hk : ¬ (k = 0 ∨ point = 0 ∨ point = (k : Int) - 1)) :
    DigAns s.data.toList v (4 * (z : Int) - (if 0 < point then 4 * ((k : Int) - 1 - point) else 0)) wd (s.data.toList.drop k) true := by
  have hb := place_body h.place hst
  have hl : (s.data.toList.take k).length = k := by rw [List.length_take, size_list]; have := h.le; omega
  rw [List.take_append_drop, hl, if_neg hk] at hb
  obtain ⟨b1, b2, b3, b4⟩ := h.bounds
  have hv := h.dig.1
  have le := h.le
  refine Or.inr ⟨rfl, by omega, by omega, by by_cases hp : 0 < point <;> simp only [hp, if_true, if_false] <;> omega, by by_cases hp : 0 < point <;> simp only [hp, if_true, if_false] <;> omega, by rw [List.length_drop]; omega, D, _, hb, fun pw => ?_⟩
  rw [h.dig.exact, Int.toNat_natCast]
  congr 1
  by_cases hp : 0 < point
  · rw [if_pos hp, if_pos hp]; omega
  · rw [if_neg hp, if_neg hp]; omega
theorem Scan.refuse {s : ByteArray} {k : Nat} {point : Int} {D : List UInt8} {v z : Nat} {wd : Bool} (h : Scan s k point D v z wd) (hst : stopB point (s.data.toList.drop k)) (hk : k = 0 ∨ point = 0 ∨ point = (k : Int) - 1) :
    readBody s.data.toList = none := by
  have hb := place_body h.place hst
  have hl : (s.data.toList.take k).length = k := by rw [List.length_take, size_list]; have := h.le; omega
  rw [List.take_append_drop, hl, if_pos hk] at hb
  exact hb
theorem cut_from (s : ByteArray) (k : Nat) : s.extract k s.size = ⟨(s.data.toList.drop k).toArray⟩ := by
  obtain ⟨⟨l⟩⟩ := s
  rw [ByteArray.extract_mk]
  have e : (⟨⟨l⟩⟩ : ByteArray).size = l.length := rfl
  rw [e]
  simp
  rw [List.take_of_length_le (by rw [List.length_drop]; omega)]
theorem stored3 {w wk W : World} {b : Nat} {x y z p q r : Value} (hW : ((wk.setCell ⟨b, 0, none⟩ x).setCell ⟨b, 1, none⟩ y).setCell ⟨b, 2, none⟩ z = W) (f : ∀ i, wk.cell? ⟨b, i, none⟩ = #[p, q, r][i]?) (hb : w.heap.size ≤ b) (h : Below w.heap.size w wk) :
    (∀ i, W.cell? ⟨b, i, none⟩ = #[x, y, z][i]?) ∧ Below w.heap.size w W := by
  subst hW
  exact ⟨set_at (set_at (set_at f x (show 0 < 3 by decide)) y (show 1 < 3 by decide)) z (show 2 < 3 by decide), ((h.setCell (p := ⟨b, 0, none⟩) hb x).setCell (p := ⟨b, 1, none⟩) hb y).setCell (p := ⟨b, 2, none⟩) hb z⟩
set_option maxHeartbeats 4000000 in
theorem readDigits_c (s : ByteArray) (hs : s.size ≤ 64) (w : World) :
    Calls Tryz.prog 260 #[.string s] w fun e w' => (∃ v p wd r ok, e = .returned (.tuple #[.agg #[.int .u64 v, .int .i64 p, .bool wd], .string ⟨r.toArray⟩, .bool ok]) ∧ DigAns s.data.toList v p wd r ok) ∧ Below w.heap.size w w' := by
  obtain ⟨B, hB⟩ : ∃ B, w.heap.size = B := ⟨_, rfl⟩
  have HB := hid hB
  clear hB
  go_enter Tryz.func260, Tryz.ntmps260
  go_wp2_with fail
  go_step3
  go_wp2_with fail
  go_step3
  go_wp2_with fail
  go_loopw [5, 6, 7] (fun pt at_ nz wr => ∃ (k z v : Nat) (point : Int) (wd : Bool) (D : List UInt8), at_ = .int .i64 k ∧ nz = .int .i64 z ∧ pt = .int .i64 point ∧ Scan s k point D v z wd ∧ (∀ i, wr.cell? ⟨w.heap.size, i, none⟩ = #[Value.int .u64 v, .int .i64 0, .bool wd][i]?) ∧ (∀ i, wr.frozen? ⟨w.heap.size, i, none⟩ = false) ∧ Below w.heap.size w wr) (fun _ a _ _ => s.size - (intOf a).toNat)
  case atStart =>
    refine ⟨0, 0, 0, -1, false, [], rfl, rfl, rfl, ⟨Nat.zero_le _, Place.start, Dig.start⟩, ?_, ?_, (Below.refl _ _).alloc (Nat.le_refl _) _⟩
    · intro i
      exact World.cell?_alloc_new w _ _ _
    · intro i
      rw [frozen?_alloc_cells, World.frozen?]
      have : w.heap[w.heap.size]? = none := Array.getElem?_eq_none (Nat.le_refl _)
      rw [this]
  case round =>
    obtain ⟨k, z, v, point, wd, D, rfl, rfl, rfl, hsc, hcell, hfz, hbl⟩ := hrel
    have c0 := hcell 0
    have c1 := hcell 1
    have c2 := hcell 2
    have f0 := hfz 0
    have f1 := hfz 1
    have f2 := hfz 2
    simp at c0 c1 c2
    by_cases hlt : k < s.size
    · have le := hsc.le
      obtain ⟨b1, b2, b3, b4⟩ := hsc.bounds
      by_cases hdot : s[k] = 46 ∧ point < 0
      · obtain ⟨hc, hp⟩ := hdot
        have R := hid (hsc.dot hlt hc hp)
        have q : ((s[k].toNat : Int) == 46) = true := by rw [dot_int, hc]; rfl
        clear hsc hc
        go_wp2_with fail
        go_roundw
        case rel => exact ⟨k + 1, z, v, k, wd, D, by go_num, rfl, rfl, R.out, hcell, hfz, hbl⟩
        case measure => simp [intOf]; omega
      · obtain ⟨hr1, hr2⟩ := hexV_range s[k]
        by_cases hx : hexV s[k] = -1
        · have hst : stopB point (s.data.toList.drop k) := by
            intro c hc
            rw [drop_head s k hlt] at hc
            injection hc with hc
            subst hc
            exact ⟨hex_none hx, fun h46 => by
              apply Int.not_lt.1
              intro hp
              exact hdot ⟨h46, hp⟩⟩
          rcases (show ((s[k].toNat : Int) == 46) = false ∨ ((s[k].toNat : Int) == 46) = true ∧ ¬ point < 0 by
            rw [dot_int]
            cases h46 : (s[k] == 46) with
            | false => exact Or.inl rfl
            | true => exact Or.inr ⟨rfl, fun hp => hdot ⟨by simpa using h46, hp⟩⟩) with t1 | ⟨t1, t2⟩
          all_goals clear hdot b1 b2 b3 b4 le hr1 hr2
          · obtain ⟨b1, b2, b3, b4⟩ := hsc.bounds
            have le := hsc.le
            by_cases hk : k = 0 ∨ point = 0 ∨ point = (k : Int) - 1
            · have R := hid (hsc.refuse hst hk)
              clear hst hsc
              rcases (show ((k : Int) == 0) = true ∨ ((k : Int) == 0) = false ∧ (point == 0) = true ∨ ((k : Int) == 0) = false ∧ (point == 0) = false ∧ (point == (k : Int) - 1) = true by
                by_cases q1 : k = 0
                · exact Or.inl (by rw [beq_iff_eq]; omega)
                · by_cases q2 : point = 0
                  · exact Or.inr (Or.inl ⟨by rw [beq_eq_false_iff_ne]; omega, by rw [beq_iff_eq]; exact q2⟩)
                  · exact Or.inr (Or.inr ⟨by rw [beq_eq_false_iff_ne]; omega, by rw [beq_eq_false_iff_ne]; exact q2, by rw [beq_iff_eq]; omega⟩)) with q | ⟨q, q2⟩ | ⟨q, q2, q3⟩
              all_goals clear hk
              · go_wp2_with (first | (go_at_call 288; refine (indexHex_c _ _).mono ?_; rintro e w' ⟨rfl, rfl⟩))
                generalize hW : World.setCell (World.setCell (World.setCell _ _ _) _ _) _ _ = W
                obtain ⟨fR, gR⟩ := stored3 hW hcell (Nat.le_refl _) hbl
                simp only [Exit.noGoto_ret]
                exact bodyPost_ret (v := .tuple #[.agg #[.int .u64 0, .int .i64 0, .bool false], .string ⟨#[]⟩, .bool false]) (by simp [results, Tryz.results260, go_sem, fR]) rfl ⟨⟨0, 0, false, [], false, rfl, Or.inl ⟨rfl, R.out⟩⟩, gR⟩
              · go_wp2_with (first | (go_at_call 288; refine (indexHex_c _ _).mono ?_; rintro e w' ⟨rfl, rfl⟩))
                generalize hW : World.setCell (World.setCell (World.setCell _ _ _) _ _) _ _ = W
                obtain ⟨fR, gR⟩ := stored3 hW hcell (Nat.le_refl _) hbl
                simp only [Exit.noGoto_ret]
                exact bodyPost_ret (v := .tuple #[.agg #[.int .u64 0, .int .i64 0, .bool false], .string ⟨#[]⟩, .bool false]) (by simp [results, Tryz.results260, go_sem, fR]) rfl ⟨⟨0, 0, false, [], false, rfl, Or.inl ⟨rfl, R.out⟩⟩, gR⟩
              · go_wp2_with (first | (go_at_call 288; refine (indexHex_c _ _).mono ?_; rintro e w' ⟨rfl, rfl⟩))
                generalize hW : World.setCell (World.setCell (World.setCell _ _ _) _ _) _ _ = W
                obtain ⟨fR, gR⟩ := stored3 hW hcell (Nat.le_refl _) hbl
                simp only [Exit.noGoto_ret]
                exact bodyPost_ret (v := .tuple #[.agg #[.int .u64 0, .int .i64 0, .bool false], .string ⟨#[]⟩, .bool false]) (by simp [results, Tryz.results260, go_sem, fR]) rfl ⟨⟨0, 0, false, [], false, rfl, Or.inl ⟨rfl, R.out⟩⟩, gR⟩
            · have R := hid (hsc.answer hs hst hk)
              have q : ((k : Int) == 0) = false := by rw [beq_eq_false_iff_ne]; omega
              have q2 : (point == 0) = false := by rw [beq_eq_false_iff_ne]; omega
              have q3 : (point == (k : Int) - 1) = false := by rw [beq_eq_false_iff_ne]; omega
              clear hst hsc hk
              by_cases hp : 0 < point
              · rw [if_pos hp] at R
                go_wp2_with (first | (go_at_call 288; refine (indexHex_c _ _).mono ?_; rintro e w' ⟨rfl, rfl⟩))
                generalize hW : World.setCell (World.setCell _ _ _) _ _ = W
                have fW : ∀ i, W.cell? ⟨w.heap.size, i, none⟩ = #[Value.int .u64 v, .int .i64 (4 * (z : Int) - 4 * ((k : Int) - 1 - point)), .bool wd][i]? := by rw [← hW]; exact set_at (set_at hcell _ (show 1 < 3 by decide)) _ (show 1 < 3 by decide)
                have gW : Below w.heap.size w W := by rw [← hW]; exact (hbl.setCell (p := ⟨w.heap.size, 1, none⟩) (Nat.le_refl _) _).setCell (p := ⟨w.heap.size, 1, none⟩) (Nat.le_refl _) _
                have zW : ∀ i, W.frozen? ⟨w.heap.size, i, none⟩ = false := by rw [← hW]; intro i; rw [World.frozen?_setCell, World.frozen?_setCell]; exact hfz i
                have d0 := fW 0
                have d1 := fW 1
                have d2 := fW 2
                have e0 := zW 0
                have e1 := zW 1
                have e2 := zW 2
                simp at d0 d1 d2
                have FW := hid fW
                have hcf := cut_from s k
                clear c0 c1 c2 f0 f1 f2 hcell hfz hbl hW fW zW
                go_region
                go_wp2_with fail
                generalize hV : World.setCell (World.setCell (World.setCell _ _ _) _ _) _ _ = V
                obtain ⟨fR, gR⟩ := stored3 hV FW.out (Nat.le_refl _) gW
                simp only [Exit.noGoto_ret]
                exact bodyPost_ret (v := .tuple #[.agg #[.int .u64 v, .int .i64 (4 * (z : Int) - 4 * ((k : Int) - 1 - point)), .bool wd], .string ⟨(s.data.toList.drop k).toArray⟩, .bool true]) (by simp [results, Tryz.results260, go_sem, fR]) rfl ⟨⟨_, _, _, _, _, rfl, R.out⟩, gR.drew⟩
              · rw [if_neg hp, Int.sub_zero] at R
                go_wp2_with (first | (go_at_call 288; refine (indexHex_c _ _).mono ?_; rintro e w' ⟨rfl, rfl⟩))
                generalize hW : World.setCell _ _ _ = W
                have fW : ∀ i, W.cell? ⟨w.heap.size, i, none⟩ = #[Value.int .u64 v, .int .i64 (4 * (z : Int)), .bool wd][i]? := by rw [← hW]; exact set_at hcell _ (show 1 < 3 by decide)
                have gW : Below w.heap.size w W := by rw [← hW]; exact hbl.setCell (p := ⟨w.heap.size, 1, none⟩) (Nat.le_refl _) _
                have zW : ∀ i, W.frozen? ⟨w.heap.size, i, none⟩ = false := by rw [← hW]; intro i; rw [World.frozen?_setCell]; exact hfz i
                have d0 := fW 0
                have d1 := fW 1
                have d2 := fW 2
                have e0 := zW 0
                have e1 := zW 1
                have e2 := zW 2
                simp at d0 d1 d2
                have FW := hid fW
                have hcf := cut_from s k
                clear c0 c1 c2 f0 f1 f2 hcell hfz hbl hW fW zW
                go_region
                go_wp2_with fail
                generalize hV : World.setCell (World.setCell (World.setCell _ _ _) _ _) _ _ = V
                obtain ⟨fR, gR⟩ := stored3 hV FW.out (Nat.le_refl _) gW
                simp only [Exit.noGoto_ret]
                exact bodyPost_ret (v := .tuple #[.agg #[.int .u64 v, .int .i64 (4 * (z : Int)), .bool wd], .string ⟨(s.data.toList.drop k).toArray⟩, .bool true]) (by simp [results, Tryz.results260, go_sem, fR]) rfl ⟨⟨_, _, _, _, _, rfl, R.out⟩, gR.drew⟩
          · obtain ⟨b1, b2, b3, b4⟩ := hsc.bounds
            have le := hsc.le
            by_cases hk : k = 0 ∨ point = 0 ∨ point = (k : Int) - 1
            · have R := hid (hsc.refuse hst hk)
              clear hst hsc
              rcases (show ((k : Int) == 0) = true ∨ ((k : Int) == 0) = false ∧ (point == 0) = true ∨ ((k : Int) == 0) = false ∧ (point == 0) = false ∧ (point == (k : Int) - 1) = true by
                by_cases q1 : k = 0
                · exact Or.inl (by rw [beq_iff_eq]; omega)
                · by_cases q2 : point = 0
                  · exact Or.inr (Or.inl ⟨by rw [beq_eq_false_iff_ne]; omega, by rw [beq_iff_eq]; exact q2⟩)
                  · exact Or.inr (Or.inr ⟨by rw [beq_eq_false_iff_ne]; omega, by rw [beq_eq_false_iff_ne]; exact q2, by rw [beq_iff_eq]; omega⟩)) with q | ⟨q, q2⟩ | ⟨q, q2, q3⟩
              all_goals clear hk
              · go_wp2_with (first | (go_at_call 288; refine (indexHex_c _ _).mono ?_; rintro e w' ⟨rfl, rfl⟩))
                generalize hW : World.setCell (World.setCell (World.setCell _ _ _) _ _) _ _ = W
                obtain ⟨fR, gR⟩ := stored3 hW hcell (Nat.le_refl _) hbl
                simp only [Exit.noGoto_ret]
                exact bodyPost_ret (v := .tuple #[.agg #[.int .u64 0, .int .i64 0, .bool false], .string ⟨#[]⟩, .bool false]) (by simp [results, Tryz.results260, go_sem, fR]) rfl ⟨⟨0, 0, false, [], false, rfl, Or.inl ⟨rfl, R.out⟩⟩, gR⟩
              · go_wp2_with (first | (go_at_call 288; refine (indexHex_c _ _).mono ?_; rintro e w' ⟨rfl, rfl⟩))
                generalize hW : World.setCell (World.setCell (World.setCell _ _ _) _ _) _ _ = W
                obtain ⟨fR, gR⟩ := stored3 hW hcell (Nat.le_refl _) hbl
                simp only [Exit.noGoto_ret]
                exact bodyPost_ret (v := .tuple #[.agg #[.int .u64 0, .int .i64 0, .bool false], .string ⟨#[]⟩, .bool false]) (by simp [results, Tryz.results260, go_sem, fR]) rfl ⟨⟨0, 0, false, [], false, rfl, Or.inl ⟨rfl, R.out⟩⟩, gR⟩
              · go_wp2_with (first | (go_at_call 288; refine (indexHex_c _ _).mono ?_; rintro e w' ⟨rfl, rfl⟩))
                generalize hW : World.setCell (World.setCell (World.setCell _ _ _) _ _) _ _ = W
                obtain ⟨fR, gR⟩ := stored3 hW hcell (Nat.le_refl _) hbl
                simp only [Exit.noGoto_ret]
                exact bodyPost_ret (v := .tuple #[.agg #[.int .u64 0, .int .i64 0, .bool false], .string ⟨#[]⟩, .bool false]) (by simp [results, Tryz.results260, go_sem, fR]) rfl ⟨⟨0, 0, false, [], false, rfl, Or.inl ⟨rfl, R.out⟩⟩, gR⟩
            · have R := hid (hsc.answer hs hst hk)
              have q : ((k : Int) == 0) = false := by rw [beq_eq_false_iff_ne]; omega
              have q2 : (point == 0) = false := by rw [beq_eq_false_iff_ne]; omega
              have q3 : (point == (k : Int) - 1) = false := by rw [beq_eq_false_iff_ne]; omega
              clear hst hsc hk
              by_cases hp : 0 < point
              · rw [if_pos hp] at R
                go_wp2_with (first | (go_at_call 288; refine (indexHex_c _ _).mono ?_; rintro e w' ⟨rfl, rfl⟩))
                generalize hW : World.setCell (World.setCell _ _ _) _ _ = W
                have fW : ∀ i, W.cell? ⟨w.heap.size, i, none⟩ = #[Value.int .u64 v, .int .i64 (4 * (z : Int) - 4 * ((k : Int) - 1 - point)), .bool wd][i]? := by rw [← hW]; exact set_at (set_at hcell _ (show 1 < 3 by decide)) _ (show 1 < 3 by decide)
                have gW : Below w.heap.size w W := by rw [← hW]; exact (hbl.setCell (p := ⟨w.heap.size, 1, none⟩) (Nat.le_refl _) _).setCell (p := ⟨w.heap.size, 1, none⟩) (Nat.le_refl _) _
                have zW : ∀ i, W.frozen? ⟨w.heap.size, i, none⟩ = false := by rw [← hW]; intro i; rw [World.frozen?_setCell, World.frozen?_setCell]; exact hfz i
                have d0 := fW 0
                have d1 := fW 1
                have d2 := fW 2
                have e0 := zW 0
                have e1 := zW 1
                have e2 := zW 2
                simp at d0 d1 d2
                have FW := hid fW
                have hcf := cut_from s k
                clear c0 c1 c2 f0 f1 f2 hcell hfz hbl hW fW zW
                go_region
                go_wp2_with fail
                generalize hV : World.setCell (World.setCell (World.setCell _ _ _) _ _) _ _ = V
                obtain ⟨fR, gR⟩ := stored3 hV FW.out (Nat.le_refl _) gW
                simp only [Exit.noGoto_ret]
                exact bodyPost_ret (v := .tuple #[.agg #[.int .u64 v, .int .i64 (4 * (z : Int) - 4 * ((k : Int) - 1 - point)), .bool wd], .string ⟨(s.data.toList.drop k).toArray⟩, .bool true]) (by simp [results, Tryz.results260, go_sem, fR]) rfl ⟨⟨_, _, _, _, _, rfl, R.out⟩, gR.drew⟩
              · rw [if_neg hp, Int.sub_zero] at R
                go_wp2_with (first | (go_at_call 288; refine (indexHex_c _ _).mono ?_; rintro e w' ⟨rfl, rfl⟩))
                generalize hW : World.setCell _ _ _ = W
                have fW : ∀ i, W.cell? ⟨w.heap.size, i, none⟩ = #[Value.int .u64 v, .int .i64 (4 * (z : Int)), .bool wd][i]? := by rw [← hW]; exact set_at hcell _ (show 1 < 3 by decide)
                have gW : Below w.heap.size w W := by rw [← hW]; exact hbl.setCell (p := ⟨w.heap.size, 1, none⟩) (Nat.le_refl _) _
                have zW : ∀ i, W.frozen? ⟨w.heap.size, i, none⟩ = false := by rw [← hW]; intro i; rw [World.frozen?_setCell]; exact hfz i
                have d0 := fW 0
                have d1 := fW 1
                have d2 := fW 2
                have e0 := zW 0
                have e1 := zW 1
                have e2 := zW 2
                simp at d0 d1 d2
                have FW := hid fW
                have hcf := cut_from s k
                clear c0 c1 c2 f0 f1 f2 hcell hfz hbl hW fW zW
                go_region
                go_wp2_with fail
                generalize hV : World.setCell (World.setCell (World.setCell _ _ _) _ _) _ _ = V
                obtain ⟨fR, gR⟩ := stored3 hV FW.out (Nat.le_refl _) gW
                simp only [Exit.noGoto_ret]
                exact bodyPost_ret (v := .tuple #[.agg #[.int .u64 v, .int .i64 (4 * (z : Int)), .bool wd], .string ⟨(s.data.toList.drop k).toArray⟩, .bool true]) (by simp [results, Tryz.results260, go_sem, fR]) rfl ⟨⟨_, _, _, _, _, rfl, R.out⟩, gR.drew⟩
        · have t1 : ((s[k].toNat : Int) == 46) = false := by
            rw [dot_int, beq_eq_false_iff_ne]
            intro e
            rw [e] at hx
            exact hx (by decide)
          clear hdot
          by_cases h0 : hexV s[k] = 0
          · have R := hid (hsc.nought hlt h0)
            clear hsc hx hr1 hr2
            go_wp2_with (first | (go_at_call 288; refine (indexHex_c _ _).mono ?_; rintro e w' ⟨rfl, rfl⟩))
            go_roundw
            case rel => exact ⟨k + 1, z + 1, v, point, wd, D ++ [s[k]], by go_num, by go_num, rfl, R.out, hcell, hfz, hbl⟩
            case measure => simp [intOf]; omega
          · obtain ⟨d, hd⟩ := Int.eq_ofNat_of_zero_le (show 0 ≤ hexV s[k] by omega)
            have R := hid (fun v' wd' hD => hsc.digit (v' := v') (wd' := wd') hlt (by omega) hD)
            have hp := push_c w.heap.size D v z s[k] d 0 wd wr hcell hfz hsc.dig hd (by omega) (by omega)
            have d0 : ¬ (d : Int) = 0 := by omega
            have d1 : ¬ (d : Int) = -1 := by omega
            have d16 : (d : Int) < 16 := by omega
            have HZ := hid hfz
            have HB2 := hid hbl
            clear hsc hx hr1 hr2 h0 c0 c1 c2 f0 f1 f2 hcell hfz hbl
            go_wp2_with (first | (go_at_call 288; refine (indexHex_c _ _).mono ?_; rintro e w' ⟨rfl, rfl⟩) | (go_at_call 289; refine hp.mono ?_; rintro e w' ⟨rfl, i, x, v', wd', rfl, hc', hD'⟩))
            go_roundw
            case rel => exact ⟨k + 1, 0, v', point, wd', D ++ [s[k]], by go_num, rfl, rfl, R.out v' wd' hD', hc', fun j => by rw [World.frozen?_setCell]; exact HZ.out j, HB2.out.setCell (p := ⟨w.heap.size, i, none⟩) (Nat.le_refl _) _⟩
            case measure => simp [intOf]; omega
    · have hst : stopB point (s.data.toList.drop k) := by
        intro c hc
        rw [List.drop_of_length_le (by rw [size_list]; omega)] at hc
        cases hc
      obtain ⟨b1, b2, b3, b4⟩ := hsc.bounds
      have le := hsc.le
      by_cases hk : k = 0 ∨ point = 0 ∨ point = (k : Int) - 1
      · have R := hid (hsc.refuse hst hk)
        clear hst hsc
        rcases (show ((k : Int) == 0) = true ∨ ((k : Int) == 0) = false ∧ (point == 0) = true ∨ ((k : Int) == 0) = false ∧ (point == 0) = false ∧ (point == (k : Int) - 1) = true by
          by_cases q1 : k = 0
          · exact Or.inl (by rw [beq_iff_eq]; omega)
          · by_cases q2 : point = 0
            · exact Or.inr (Or.inl ⟨by rw [beq_eq_false_iff_ne]; omega, by rw [beq_iff_eq]; exact q2⟩)
            · exact Or.inr (Or.inr ⟨by rw [beq_eq_false_iff_ne]; omega, by rw [beq_eq_false_iff_ne]; exact q2, by rw [beq_iff_eq]; omega⟩)) with q | ⟨q, q2⟩ | ⟨q, q2, q3⟩
        all_goals clear hk
        · go_wp2_with fail
          generalize hW : World.setCell (World.setCell (World.setCell _ _ _) _ _) _ _ = W
          obtain ⟨fR, gR⟩ := stored3 hW hcell (Nat.le_refl _) hbl
          simp only [Exit.noGoto_ret]
          exact bodyPost_ret (v := .tuple #[.agg #[.int .u64 0, .int .i64 0, .bool false], .string ⟨#[]⟩, .bool false]) (by simp [results, Tryz.results260, go_sem, fR]) rfl ⟨⟨0, 0, false, [], false, rfl, Or.inl ⟨rfl, R.out⟩⟩, gR⟩
        · go_wp2_with fail
          generalize hW : World.setCell (World.setCell (World.setCell _ _ _) _ _) _ _ = W
          obtain ⟨fR, gR⟩ := stored3 hW hcell (Nat.le_refl _) hbl
          simp only [Exit.noGoto_ret]
          exact bodyPost_ret (v := .tuple #[.agg #[.int .u64 0, .int .i64 0, .bool false], .string ⟨#[]⟩, .bool false]) (by simp [results, Tryz.results260, go_sem, fR]) rfl ⟨⟨0, 0, false, [], false, rfl, Or.inl ⟨rfl, R.out⟩⟩, gR⟩
        · go_wp2_with fail
          generalize hW : World.setCell (World.setCell (World.setCell _ _ _) _ _) _ _ = W
          obtain ⟨fR, gR⟩ := stored3 hW hcell (Nat.le_refl _) hbl
          simp only [Exit.noGoto_ret]
          exact bodyPost_ret (v := .tuple #[.agg #[.int .u64 0, .int .i64 0, .bool false], .string ⟨#[]⟩, .bool false]) (by simp [results, Tryz.results260, go_sem, fR]) rfl ⟨⟨0, 0, false, [], false, rfl, Or.inl ⟨rfl, R.out⟩⟩, gR⟩
      · have R := hid (hsc.answer hs hst hk)
        have q : ((k : Int) == 0) = false := by rw [beq_eq_false_iff_ne]; omega
        have q2 : (point == 0) = false := by rw [beq_eq_false_iff_ne]; omega
        have q3 : (point == (k : Int) - 1) = false := by rw [beq_eq_false_iff_ne]; omega
        clear hst hsc hk
        by_cases hp : 0 < point
        · rw [if_pos hp] at R
          go_wp2_with fail
          generalize hW : World.setCell (World.setCell _ _ _) _ _ = W
          have fW : ∀ i, W.cell? ⟨w.heap.size, i, none⟩ = #[Value.int .u64 v, .int .i64 (4 * (z : Int) - 4 * ((k : Int) - 1 - point)), .bool wd][i]? := by rw [← hW]; exact set_at (set_at hcell _ (show 1 < 3 by decide)) _ (show 1 < 3 by decide)
          have gW : Below w.heap.size w W := by rw [← hW]; exact (hbl.setCell (p := ⟨w.heap.size, 1, none⟩) (Nat.le_refl _) _).setCell (p := ⟨w.heap.size, 1, none⟩) (Nat.le_refl _) _
          have zW : ∀ i, W.frozen? ⟨w.heap.size, i, none⟩ = false := by rw [← hW]; intro i; rw [World.frozen?_setCell, World.frozen?_setCell]; exact hfz i
          have d0 := fW 0
          have d1 := fW 1
          have d2 := fW 2
          have e0 := zW 0
          have e1 := zW 1
          have e2 := zW 2
          simp at d0 d1 d2
          have FW := hid fW
          have hcf := cut_from s k
          clear c0 c1 c2 f0 f1 f2 hcell hfz hbl hW fW zW
          go_region
          go_wp2_with fail
          generalize hV : World.setCell (World.setCell (World.setCell _ _ _) _ _) _ _ = V
          obtain ⟨fR, gR⟩ := stored3 hV FW.out (Nat.le_refl _) gW
          simp only [Exit.noGoto_ret]
          exact bodyPost_ret (v := .tuple #[.agg #[.int .u64 v, .int .i64 (4 * (z : Int) - 4 * ((k : Int) - 1 - point)), .bool wd], .string ⟨(s.data.toList.drop k).toArray⟩, .bool true]) (by simp [results, Tryz.results260, go_sem, fR]) rfl ⟨⟨_, _, _, _, _, rfl, R.out⟩, gR.drew⟩
        · rw [if_neg hp, Int.sub_zero] at R
          go_wp2_with fail
          generalize hW : World.setCell _ _ _ = W
          have fW : ∀ i, W.cell? ⟨w.heap.size, i, none⟩ = #[Value.int .u64 v, .int .i64 (4 * (z : Int)), .bool wd][i]? := by rw [← hW]; exact set_at hcell _ (show 1 < 3 by decide)
          have gW : Below w.heap.size w W := by rw [← hW]; exact hbl.setCell (p := ⟨w.heap.size, 1, none⟩) (Nat.le_refl _) _
          have zW : ∀ i, W.frozen? ⟨w.heap.size, i, none⟩ = false := by rw [← hW]; intro i; rw [World.frozen?_setCell]; exact hfz i
          have d0 := fW 0
          have d1 := fW 1
          have d2 := fW 2
          have e0 := zW 0
          have e1 := zW 1
          have e2 := zW 2
          simp at d0 d1 d2
          have FW := hid fW
          have hcf := cut_from s k
          clear c0 c1 c2 f0 f1 f2 hcell hfz hbl hW fW zW
          go_region
          go_wp2_with fail
          generalize hV : World.setCell (World.setCell (World.setCell _ _ _) _ _) _ _ = V
          obtain ⟨fR, gR⟩ := stored3 hV FW.out (Nat.le_refl _) gW
          simp only [Exit.noGoto_ret]
          exact bodyPost_ret (v := .tuple #[.agg #[.int .u64 v, .int .i64 (4 * (z : Int)), .bool wd], .string ⟨(s.data.toList.drop k).toArray⟩, .bool true]) (by simp [results, Tryz.results260, go_sem, fR]) rfl ⟨⟨_, _, _, _, _, rfl, R.out⟩, gR.drew⟩
end Go.Proofs.YtdncdddaobemaaaGreatDoor.W.Nu.Q
/- Contracts of package numtext: a double's parts, its fraction and its power in digits. -/
namespace Go.Proofs.YtdncdddaobemaaaGreatDoor.W.Nu.Q
open Go.ChangeShapes Go.WideShapes Go.RowKit

/-! ### masks and shifts -/
theorem and52 (n : Int) (h0 : 0 ≤ n) (h1 : n < 18446744073709551616) : bits .and .u64 n 4503599627370495 = n % 4503599627370496 := by
  rw [u64_and n _ h0 h1 (by decide) (by decide)]
  have e : (4503599627370495 : Int).toNat = 2 ^ 52 - 1 := by decide
  rw [e, Nat.and_two_pow_sub_one_eq_mod]
  omega
theorem andNot63 (n : Int) (h0 : 0 ≤ n) (h1 : n < 18446744073709551616) : bits .andNot .u64 n 9223372036854775808 = n % 9223372036854775808 := by
  rw [u64_andNot n 9223372036854775808 h0 h1 (by decide) (by decide)]
  have e : (18446744073709551615 - (9223372036854775808 : Int).toNat) = 2 ^ 63 - 1 := by decide
  rw [e, Nat.and_two_pow_sub_one_eq_mod]
  omega
theorem and_shift (x m i : Nat) : x &&& (m * 2 ^ i) = ((x / 2 ^ i) &&& m) * 2 ^ i := by
  apply Nat.eq_of_testBit_eq
  intro j
  rw [Nat.testBit_and, Nat.testBit_mul_two_pow, Nat.testBit_mul_two_pow, Nat.testBit_and, Nat.testBit_div_two_pow]
  by_cases h : i ≤ j
  · have e' : j - i + i = j := by omega
    simp [h, e']
  · simp [h]
theorem and63 (n : Int) (h0 : 0 ≤ n) (h1 : n < 18446744073709551616) : (bits .and .u64 n 9223372036854775808 != 0) = decide (9223372036854775808 ≤ n) := by
  rw [u64_and n _ h0 h1 (by decide) (by decide)]
  have e : (9223372036854775808 : Int).toNat = (2 ^ 1 - 1) * 2 ^ 63 := by decide
  rw [e, and_shift, Nat.and_two_pow_sub_one_eq_mod]
  rw [Bool.eq_iff_iff]
  simp only [bne_iff_ne, ne_eq, decide_eq_true_eq]
  omega
theorem shl_log (a : Int) (h0 : 0 < a) (h1 : a < 4503599627370496) :
    a.toNat.log2 ≤ 51 ∧ 4503599627370496 ≤ a * 2 ^ (52 - a.toNat.log2) ∧ a * 2 ^ (52 - a.toNat.log2) < 9007199254740992 := by
  obtain ⟨n, rfl⟩ := Int.eq_ofNat_of_zero_le (Int.le_of_lt h0)
  rw [Int.toNat_natCast]
  have hn : n ≠ 0 := by omega
  obtain ⟨l1, l2⟩ := high_le hn
  have hl : n.log2 ≤ 51 := by
    apply Nat.le_of_not_lt
    intro hh
    have : 2 ^ 52 ≤ 2 ^ n.log2 := Nat.pow_le_pow_right (by decide) hh
    have e : (2 : Nat) ^ 52 = 4503599627370496 := by decide
    omega
  refine ⟨hl, ?_⟩
  have a1 : 2 ^ n.log2 * 2 ^ (52 - n.log2) ≤ n * 2 ^ (52 - n.log2) := Nat.mul_le_mul_right _ l1
  have a2 : n * 2 ^ (52 - n.log2) < 2 ^ (n.log2 + 1) * 2 ^ (52 - n.log2) := Nat.mul_lt_mul_of_pos_right l2 (Nat.two_pow_pos _)
  rw [← Nat.pow_add] at a1 a2
  have e1 : n.log2 + (52 - n.log2) = 52 := by omega
  have e2 : n.log2 + 1 + (52 - n.log2) = 53 := by omega
  rw [e1] at a1
  rw [e2] at a2
  have e : ((n : Int) * 2 ^ (52 - n.log2)) = ((n * 2 ^ (52 - n.log2) : Nat) : Int) := by simp
  have e5 : (2 : Nat) ^ 52 = 4503599627370496 := by decide
  have e6 : (2 : Nat) ^ 53 = 9007199254740992 := by decide
  rw [e]
  omega
theorem frac_small (a : Int) (h0 : 0 < a) (h1 : a < 4503599627370496) : (a * 2 ^ (52 - a.toNat.log2)) % 4503599627370496 = (fracOf a.toNat : Nat) := by
  obtain ⟨s1, s2, s3⟩ := shl_log a h0 h1
  unfold fracOf
  rw [if_pos (by omega)]
  have e : (a * 2 ^ (52 - a.toNat.log2)) = ((a.toNat * 2 ^ (52 - a.toNat.log2) : Nat) : Int) := by
    have : (a.toNat : Int) = a := by omega
    simp [this]
  rw [e] at s2 s3 ⊢
  omega
set_option maxHeartbeats 400000 in
theorem scaled_c (a : Int) (h0 : 0 < a) (h1 : a < 9218868437227405312) (w : World) :
    Calls Tryz.prog 117 #[.int .u64 a] w fun e w' => e = .returned (.tuple #[.int .u64 (fracOf a.toNat : Nat), .int .i64 (powOf a.toNat)]) ∧ w' = w := by
  by_cases hs : a < 4503599627370496
  · obtain ⟨s1, s2, s3⟩ := shl_log a h0 hs
    have F := hid (frac_small a h0 hs)
    have P := hid (show powOf a.toNat = (a.toNat.log2 : Int) - 1074 by unfold powOf; rw [if_pos (by omega)])
    generalize hg : a.toNat.log2 = g at *
    generalize hb : a * 2 ^ (52 - g) = b at *
    have m := and52 b (by omega) (by omega)
    have e1 : (52 - (g : Int)).toNat = 52 - g := by omega
    have e2 : IntKind.u64.wrap b = b := by rw [IntKind.wrap_u64]; omega
    have e3 : IntKind.i64.wrap (53 - ((g : Int) + 1)) = 52 - (g : Int) := by rw [IntKind.wrap_i64]; omega
    go_enter Tryz.func117, Tryz.ntmps117
    go_wp2_with (go_at_call 187; refine (len64_c _ h0 (by omega) _).mono ?_; rintro e w' ⟨rfl, rfl⟩)
    go_ret2
    exact ⟨ret_ii (by rw [← F.out]) (by rw [P.out]; go_num), rfl⟩
  · have F := hid (show (fracOf a.toNat : Nat) = a % 4503599627370496 by unfold fracOf; rw [if_neg (by omega)]; omega)
    have P := hid (show powOf a.toNat = a / 4503599627370496 - 1023 by unfold powOf; rw [if_neg (by omega)]; omega)
    have m := and52 a (by omega) (by omega)
    go_enter Tryz.func117, Tryz.ntmps117
    go_wp2_with fail
    go_ret2
    exact ⟨ret_ii (by rw [F.out]) (by rw [P.out]), rfl⟩

/-! ### bytes in a row of one's own -/
theorem Tryz.info8 : (Tryz.prog.info? 5).map (fun i => (i.zero, i.size, i.bytes)) = some (some (.int .u8 0), 1, 1) := by kernel_rfl
def bytesV (l : List UInt8) : List Value := l.map fun b => Value.int .u8 (b.toNat : Int)
theorem bytesV_snoc (l : List UInt8) (c : UInt8) (n : Int) (h : (c.toNat : Int) = n) : bytesV (l ++ [c]) = bytesV l ++ [.int .u8 n] := by
  unfold bytesV
  rw [List.map_append, List.map_cons, List.map_nil, h]
theorem conv_own {w : World} {base : Nat} {v : Value} {n : Nat} (l : List UInt8) (h : w.ownsRow base 5 1 v n (bytesV l)) :
    (convert 62 9 v).run Tryz.prog w = .ok (.string ⟨l.toArray⟩) w := by
  have hn : n = l.length := by
    have := h.1
    simp [bytesV] at this
    omega
  subst hn
  have h2 := h.2
  rcases h2 with ⟨rfl, hz⟩ | ⟨g, cap, cur, rfl, _⟩
  · have : l = [] := List.eq_nil_of_length_eq_zero hz
    subst this
    exact run_convert_bytes_nil w 62 5 Tryz.underlying62 Tryz.underlying5 0 0 9 Tryz.underlying9
  · refine run_convert_bytes_back w 62 9 5 ⟨g, 0, none⟩ cap l Tryz.underlying62 Tryz.underlying5 Tryz.underlying9 ?_
    intro j hj
    exact h.cells rfl j _ (by simp [bytesV, List.getElem?_eq_getElem hj])
def lenOf : Value → Nat | .slice _ n _ => n | _ => 0
theorem owns_len {w : World} {base : Nat} {e : TypeId} {v : Value} {n : Nat} {xs : List Value} (h : w.ownsRow base e 1 v n xs) : lenOf v = n := by
  rcases h.2 with ⟨rfl, hz⟩ | ⟨g, cap, cur, rfl, _⟩
  · exact hz.symm
  · rfl
/-! ### a fraction's digits -/
theorem fracL_step (k f : Nat) (h : f ≠ 0) : fracL (k + 1) f = hexd (f / 281474976710656) :: fracL k (f % 281474976710656 * 16) := by rw [fracL, if_neg h]
/-- what is left to print -/
def Left (F : Nat) (pre : List UInt8) (f : Nat) : Prop := ∃ k, k ≤ 13 ∧ pre.length = 13 - k ∧ f < 4503599627370496 ∧ f % 2 ^ (52 - 4 * k) = 0 ∧ fracL 13 F = pre ++ fracL k f
theorem Left.start (F : Nat) (h : F < 4503599627370496) : Left F [] F := ⟨13, Nat.le_refl _, rfl, h, by
  have e0 : (2 : Nat) ^ (52 - 4 * 13) = 1 := by decide
  rw [e0]; omega, rfl⟩
theorem Left.lt {F f : Nat} {pre : List UInt8} (h : Left F pre f) : f < 4503599627370496 ∧ pre.length ≤ 13 := by
  obtain ⟨k, h1, h2, h3, h4, h5⟩ := h
  exact ⟨h3, by omega⟩
theorem Left.step {F f : Nat} {pre : List UInt8} (h : Left F pre f) (hf : f ≠ 0) : Left F (pre ++ [hexd (f / 281474976710656)]) (f % 281474976710656 * 16) ∧ pre.length < 13 := by
  obtain ⟨k, h1, h2, h3, h4, h5⟩ := h
  cases k with
  | zero =>
    have e : (2 : Nat) ^ (52 - 4 * 0) = 4503599627370496 := by decide
    rw [e] at h4; omega
  | succ k =>
    refine ⟨⟨k, by omega, by simp; omega, by omega, ?_, by rw [h5, fracL_step k f hf]; simp⟩, by omega⟩
    have e1 : (2 : Nat) ^ (52 - 4 * k) = 2 ^ (52 - 4 * (k + 1)) * 16 := by
      have : (16 : Nat) = 2 ^ 4 := by decide
      rw [this, ← Nat.pow_add]; congr 1; omega
    rw [e1, Nat.mul_mod_mul_right]
    have e2 : f % 281474976710656 % 2 ^ (52 - 4 * (k + 1)) = 0 := by
      have : (281474976710656 : Nat) = 2 ^ (52 - 4 * (k + 1)) * 2 ^ (4 * k) := by
        rw [← Nat.pow_add, show 52 - 4 * (k + 1) + 4 * k = 48 by omega]
      rw [this, Nat.mod_mul_right_mod]; exact h4
    rw [e2, Nat.zero_mul]
theorem Left.done {F : Nat} {pre : List UInt8} (h : Left F pre 0) : fracL 13 F = pre := by
  obtain ⟨k, h1, h2, h3, h4, h5⟩ := h
  have : fracL k 0 = [] := by cases k <;> rfl
  rw [h5, this, List.append_nil]
theorem hex_index (d : Nat) (h : d < 16) : (⟨#[48, 49, 50, 51, 52, 53, 54, 55, 56, 57, 97, 98, 99, 100, 101, 102]⟩ : ByteArray)[d]'h = hexd d := by
  have all : ∀ n : Fin 16, (⟨#[48, 49, 50, 51, 52, 53, 54, 55, 56, 57, 97, 98, 99, 100, 101, 102]⟩ : ByteArray)[n.val]'n.isLt = hexd n.val := by decide
  exact all ⟨d, h⟩
theorem frac_next (f : Int) (h0 : 0 ≤ f) (h1 : f < 4503599627370496) : bits .and .u64 (f * 16) 4503599627370495 = f % 281474976710656 * 16 := by
  rw [and52 _ (by omega) (by omega)]
  omega
def fracTx (f : Nat) : List UInt8 := if f = 0 then [] else 46 :: fracL 13 f
set_option maxHeartbeats 400000 in
set_option maxRecDepth 100000 in
theorem fractionText_c (F : Nat) (hF : F < 4503599627370496) (w : World) :
    Calls Tryz.prog 118 #[.int .u64 F] w fun e w' => e = .returned (.string ⟨(fracTx F).toArray⟩) ∧ Below w.heap.size w w' := by
  by_cases h0 : F = 0
  · subst h0
    go_enter Tryz.func118, Tryz.ntmps118
    go_wp2_with fail
    go_ret
    exact ⟨rfl, Below.refl _ _⟩
  · have hT := hid (show fracTx F = 46 :: fracL 13 F by unfold fracTx; rw [if_neg h0])
    obtain ⟨i0, hi, hz0, hz1, hz2⟩ := info_parts Tryz.info8
    have hF0 : ((F : Int) == 0) = false := by rw [beq_eq_false_iff_ne]; omega
    go_enter Tryz.func118, Tryz.ntmps118
    go_wp2_with fail
    go_loopw [0, 3] (fun x v wr => ∃ (f : Nat) (pre : List UInt8), x = .int .u64 f ∧ Left F pre f ∧ wr.ownsRow w.heap.size 5 1 v (pre.length + 1) (bytesV (46 :: pre)) ∧ Below w.heap.size w wr) (fun _ v _ => 15 - lenOf v)
    case atStart => exact ⟨F, [], rfl, Left.start F hF, World.ownsRow_lit w #[.int .u8 46] 1 (Nat.le_refl _) (by unfold maxLen; omega) rfl, (Below.refl _ _).alloc (Nat.le_refl _) _⟩
    case round =>
      obtain ⟨f, pre, rfl, hl, hown, hnx⟩ := hrel
      obtain ⟨l1, l2⟩ := hl.lt
      have hln := owns_len hown
      by_cases hf : f = 0
      · subst hf
        have hd := hl.done
        have kc := conv_own _ hown
        have HK := hid hd
        clear hd hown hl hln
        go_wp2_with fail
        go_ret
        exact ⟨ret_s (by rw [hT.out, HK.out]), hnx⟩
      · obtain ⟨hstep, hpl⟩ := hl.step hf
        have hn := frac_next f (by omega) (by omega)
        have hi0 : (f : Int) / 281474976710656 = ((f / 281474976710656 : Nat) : Int) := by omega
        have hd16 : f / 281474976710656 < 16 := by omega
        have hrr : (f : Int) % 281474976710656 * 16 = ((f % 281474976710656 * 16 : Nat) : Int) := by omega
        rw [hrr] at hn
        have hf' : ¬ (f : Int) = 0 := by omega
        have l1' : (f : Int) < 4503599627370496 := by omega
        have f0 : (0 : Int) ≤ (f : Int) := by omega
        generalize f / 281474976710656 = d at *
        have hx := hex_index d hd16
        generalize hexd d = c at *
        generalize f % 281474976710656 * 16 = r at *
        generalize (f : Int) = F' at *
        clear hrr hf l1
        have HL := hid hstep
        have HN := hid hln
        clear hstep hln hl
        go_wp2_with (first | (at_builtin; refine wpList_append_own _ rfl _ _ 62 rfl w.heap.size 5 i0 (.int .u8 0) 1 1 Tryz.underlying62 hi hz0 hz1 hz2 rfl (by decide) _ _ _ rfl (hown.alloc _) ⟨_, 0, none⟩ 1 1 [.int .u8 c.toNat] rfl rfl ?c1 ?c2 ?c3 ?c4 ?c5 ?_))
        case c1 =>
          intro j u hj
          match j, hj with
          | 0, hj => simp at hj; subst hj; simp [Addr.add]
        case c2 => intro u hu; simp at hu; subst hu; rfl
        case c3 => unfold maxLen; omega
        case c4 => omega
        case c5 => have := hnx.size; simp; omega
        · intro v' w1 hown' hgrow _
          have R1 := hid (bytesV_snoc (46 :: pre) c c.toNat rfl)
          have R2 : Below w.heap.size w w1 := (hnx.alloc (by have := hnx.size; omega) _).grown hgrow (by have := hnx.size; simp; omega) (fun g hg => (hown.lt g hg).1)
          have R3 := owns_len hown'
          have RN := hid R3
          clear hgrow hown hnx R3
          go_wp2
          go_roundw
          case rel => exact ⟨r, pre ++ [c], by go_num, HL.out, by have := R1.out; rw [List.cons_append] at this; rw [this, List.length_append]; exact hown', R2⟩
          case measure =>
            show 15 - lenOf v' < 15 - lenOf u3
            rw [HN.out, RN.out]; omega
end Go.Proofs.YtdncdddaobemaaaGreatDoor.W.Nu.Q
