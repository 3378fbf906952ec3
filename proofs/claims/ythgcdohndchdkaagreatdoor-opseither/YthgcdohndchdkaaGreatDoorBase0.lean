import Derived.Laws.BitsAllLaws
import Derived.Test.YthgcdohndchdkaaGreatDoorProg
import Derived.WalkKit
import Derived.WalkLawsBesides
import Derived.Deep.QuietTactic
import Derived.BigQuiet
import Derived.Maps.OwnOps
import Derived.Below
import Derived.Deep.Cut
import Derived.Handy
import Derived.Laws.FloatArith
import Derived.Deep.Draws
import Derived.Laws.NewFold
/- Plain facts on numbers and rows of bytes that package word turns on: no Go in sight. -/
namespace Go.Proofs.YthgcdohndchdkaaGreatDoor.W

/-- is a pattern a NaN? -/
def nanB (n : Int) : Bool := decide (9218868437227405312 < n % 9223372036854775808)

/-- may a load be a string's? -/
def txtOk (l : Int) : Bool := decide (l / 1099511627776 ≤ 5 ∧ l % 1099511627776 < 2 ^ (8 * (l / 1099511627776)).toNat)

/-- a pattern's class -/
def cls (n : Int) : Int :=
  if nanB n = false ∨ n = 9221120237041090560 then 1
  else if n < 18444492273895866368 then 7
  else if n = 18444492273895866368 then 3
  else if n = 18444492273895866369 ∨ n = 18444492273895866370 then 4
  else if n < 18444773748872577024 then 7
  else if n < 18445055223849287680 then 2
  else if n < 18445336698825998336 then (if txtOk (n % 281474976710656) = true then 5 else 7)
  else if n < 18445618173802708992 then 6
  else 7

/-- the class of a load behind the tag 0 -/
def plainCls (l : Int) : Int := if l = 0 then 3 else if l = 1 ∨ l = 2 then 4 else 7
def textCls (l : Int) : Int := if txtOk l = true then 5 else 7

theorem and_shift (x m i : Nat) : x &&& (m * 2 ^ i) = ((x / 2 ^ i) &&& m) * 2 ^ i := by
  apply Nat.eq_of_testBit_eq
  intro j
  rw [Nat.testBit_and, Nat.testBit_mul_two_pow, Nat.testBit_mul_two_pow, Nat.testBit_and, Nat.testBit_div_two_pow]
  by_cases h : i ≤ j
  · have e : i + (j - i) = j := by omega
    have e' : j - i + i = j := by omega
    simp [h, e']
  · simp [h]

theorem nan_eq (n : Int) (h0 : 0 ≤ n) (h1 : n < 18446744073709551616) : bits .andNot .u64 n 9223372036854775808 = n % 9223372036854775808 := by
  rw [u64_andNot n 9223372036854775808 h0 h1 (by decide) (by decide)]
  have e : (18446744073709551615 - (9223372036854775808 : Int).toNat) = 2 ^ 63 - 1 := by decide
  rw [e, Nat.and_two_pow_sub_one_eq_mod]
  omega
theorem tagged_eq (n : Int) (h0 : 0 ≤ n) (h1 : n < 18446744073709551616) : (bits .and .u64 n 18444492273895866368 == 18444492273895866368) = decide (18444492273895866368 ≤ n) := by
  rw [u64_and n 18444492273895866368 h0 h1 (by decide) (by decide)]
  have e : (18444492273895866368 : Int).toNat = 8191 * 2 ^ 51 := by decide
  rw [e, and_shift, show (8191 : Nat) = 2 ^ 13 - 1 from by decide, Nat.and_two_pow_sub_one_eq_mod]
  rw [Bool.eq_iff_iff]
  simp only [beq_iff_eq, decide_eq_true_eq]
  omega
theorem tag_eq (n : Int) (h0 : 0 ≤ n) (h1 : n < 18446744073709551616) : bits .and .u64 (n / 281474976710656) 7 = n / 281474976710656 % 8 := by
  rw [u64_and _ 7 (by omega) (by omega) (by decide) (by decide)]
  have e : (7 : Int).toNat = 2 ^ 3 - 1 := by decide
  rw [e, Nat.and_two_pow_sub_one_eq_mod]
  omega
theorem load_eq (n : Int) (h0 : 0 ≤ n) (h1 : n < 18446744073709551616) : bits .and .u64 n 281474976710655 = n % 281474976710656 := by
  rw [u64_and n _ h0 h1 (by decide) (by decide)]
  have e : (281474976710655 : Int).toNat = 2 ^ 48 - 1 := by decide
  rw [e, Nat.and_two_pow_sub_one_eq_mod]
  omega
theorem room_eq (n : Int) (h0 : 0 ≤ n) (h1 : n < 18446744073709551616) : bits .and .u64 n 1099511627775 = n % 1099511627776 := by
  rw [u64_and n _ h0 h1 (by decide) (by decide)]
  have e : (1099511627775 : Int).toNat = 2 ^ 40 - 1 := by decide
  rw [e, Nat.and_two_pow_sub_one_eq_mod]
  omega
theorem join_eq (t l : Int) (h0 : 0 ≤ t) (h1 : t < 8) (h2 : 0 ≤ l) (h3 : l < 281474976710656) :
    bits .or .u64 (bits .or .u64 18444492273895866368 (IntKind.u64.wrap (t * 281474976710656))) l = 18444492273895866368 + t * 281474976710656 + l := by
  have e0 : IntKind.u64.wrap (t * 281474976710656) = t * 281474976710656 := by rw [IntKind.wrap_u64]; omega
  rw [e0, u64_or 18444492273895866368 _ (by decide) (by decide) (by omega) (by omega)]
  have e1 : (18444492273895866368 : Int).toNat ||| (t * 281474976710656).toNat = 18444492273895866368 + (t * 281474976710656).toNat :=
    nat_join 51 18444492273895866368 _ (by decide) (by omega)
  rw [e1, u64_or _ l (by omega) (by omega) h2 (by omega)]
  have e2 : ((18444492273895866368 + (t * 281474976710656).toNat : Nat) : Int).toNat ||| l.toNat = (18444492273895866368 + (t * 281474976710656).toNat) + l.toNat :=
    nat_join 48 _ _ (by omega) (by omega)
  rw [e2]
  omega

/-! ### rows of bytes as numbers, the first byte lowest -/
def encN : List UInt8 → Nat
  | [] => 0
  | b :: r => b.toNat + 256 * encN r
def decN : Nat → Nat → List UInt8
  | 0, _ => []
  | k + 1, x => UInt8.ofNat (x % 256) :: decN k (x / 256)

theorem encN_lt (l : List UInt8) : encN l < 256 ^ l.length := by
  induction l with
  | nil => simp [encN]
  | cons b r ih =>
    have := b.toNat_lt
    simp only [encN, List.length_cons, Nat.pow_succ]
    omega
theorem encN_snoc (l : List UInt8) (b : UInt8) : encN (l ++ [b]) = encN l + b.toNat * 256 ^ l.length := by
  induction l with
  | nil => simp [encN]
  | cons c r ih =>
    simp only [List.cons_append, encN, ih, List.length_cons, Nat.pow_succ]
    rw [Nat.mul_add, ← Nat.mul_assoc, Nat.add_assoc]
    congr 2
    rw [Nat.mul_comm 256, Nat.mul_assoc, Nat.mul_comm 256]
theorem decN_encN (l : List UInt8) : decN l.length (encN l) = l := by
  induction l with
  | nil => rfl
  | cons b r ih =>
    have hb := b.toNat_lt
    simp only [List.length_cons, decN, encN]
    have e1 : (b.toNat + 256 * encN r) % 256 = b.toNat := by omega
    have e2 : (b.toNat + 256 * encN r) / 256 = encN r := by omega
    rw [e1, e2, ih]
    simp
/-! ### what the functions of package word answer -/
def smallB (i : Int) : Bool := decide (-140737488355328 ≤ i ∧ i ≤ 140737488355327)
def fltW (n : Int) : Int := if nanB n = true then 9221120237041090560 else n
def intW (i : Int) : Int := if smallB i = true then 18444773748872577024 + i % 281474976710656 else 0
def toInt (n : Int) : Int := if cls n = 2 then (if n % 281474976710656 < 140737488355328 then n % 281474976710656 else n % 281474976710656 - 281474976710656) else 0
def boolW (b : Bool) : Int := if b = true then 18444492273895866370 else 18444492273895866369
def toBool (n : Int) : Bool := if cls n = 4 then n % 281474976710656 == 2 else false
def hdlW (h : Int) : Int := if h < 281474976710656 then 18445336698825998336 + h else 0
def toHdl (n : Int) : Int := if cls n = 6 then n % 281474976710656 else 0
def txtW (s : ByteArray) : Int := if s.size ≤ 5 then 18445055223849287680 + s.size * 1099511627776 + encN s.data.toList else 0
def toTxt (n : Int) : ByteArray := if cls n = 5 then ⟨(decN (n % 281474976710656 / 1099511627776).toNat (n % 1099511627776).toNat).toArray⟩ else ByteArray.empty
end Go.Proofs.YthgcdohndchdkaaGreatDoor.W
/- Contracts of the small functions of package word and of its reference: what each returns, at every argument of its kind, with the world as it was. -/
namespace Go.Proofs.YthgcdohndchdkaaGreatDoor.W
open Go.ChangeShapes Go.WideShapes Go.RowKit

theorem ret_bool {a b : Bool} (h : a = b) : Ending.returned (.bool a) = .returned (.bool b) := by rw [h]
theorem ret_int {k : IntKind} {a b : Int} (h : a = b) : Ending.returned (.int k a) = .returned (.int k b) := by rw [h]
theorem ret_pair {v v' u u' : Value} (h : v = v') (g : u = u') : Ending.returned (.tuple #[v, u]) = .returned (.tuple #[v', u']) := by rw [h, g]
theorem ret_ib {k : IntKind} {a a' : Int} {b b' : Bool} (h : a = a') (g : b = b') : Ending.returned (.tuple #[.int k a, .bool b]) = .returned (.tuple #[.int k a', .bool b']) := by rw [h, g]
theorem ret_bb {a a' : Bool} {b b' : Bool} (h : a = a') (g : b = b') : Ending.returned (.tuple #[.bool a, .bool b]) = .returned (.tuple #[.bool a', .bool b']) := by rw [h, g]
theorem ret_sb {a a' : ByteArray} {b b' : Bool} (h : a = a') (g : b = b') : Ending.returned (.tuple #[.string a, .bool b]) = .returned (.tuple #[.string a', .bool b']) := by rw [h, g]
theorem int_eq {k : IntKind} {a b : Int} (h : a = b) : Value.int k a = Value.int k b := by rw [h]
theorem hid {p : Prop} (h : p) : Hid p := h

set_option maxHeartbeats 400000 in
theorem isNaN_c (n : Int) (h0 : 0 ≤ n) (h1 : n < 18446744073709551616) (w : World) :
    Calls Tryz.prog 42 #[.int .u64 n] w fun e w' => e = .returned (.bool (nanB n)) ∧ w' = w := by
  go_enter Tryz.func42, Tryz.ntmps42
  go_wp2
  go_ret
  exact ⟨ret_bool (by rw [nan_eq n h0 h1]; rfl), rfl⟩
set_option maxHeartbeats 400000 in
theorem isTagged_c (n : Int) (h0 : 0 ≤ n) (h1 : n < 18446744073709551616) (w : World) :
    Calls Tryz.prog 75 #[.int .u64 n] w fun e w' => e = .returned (.bool (decide (18444492273895866368 ≤ n))) ∧ w' = w := by
  go_enter Tryz.func75, Tryz.ntmps75
  go_wp2
  go_ret
  exact ⟨ret_bool (tagged_eq n h0 h1), rfl⟩
set_option maxHeartbeats 400000 in
theorem tagOf_c (n : Int) (h0 : 0 ≤ n) (h1 : n < 18446744073709551616) (w : World) :
    Calls Tryz.prog 76 #[.int .u64 n] w fun e w' => e = .returned (.int .u64 (n / 281474976710656 % 8)) ∧ w' = w := by
  go_enter Tryz.func76, Tryz.ntmps76
  go_wp2
  go_ret
  exact ⟨ret_int (tag_eq n h0 h1), rfl⟩
set_option maxHeartbeats 400000 in
theorem loadOf_c (n : Int) (h0 : 0 ≤ n) (h1 : n < 18446744073709551616) (w : World) :
    Calls Tryz.prog 78 #[.int .u64 n] w fun e w' => e = .returned (.int .u64 (n % 281474976710656)) ∧ w' = w := by
  go_enter Tryz.func78, Tryz.ntmps78
  go_wp2
  go_ret
  exact ⟨ret_int (load_eq n h0 h1), rfl⟩
set_option maxHeartbeats 400000 in
theorem join_c (t l : Int) (h0 : 0 ≤ t) (h1 : t < 8) (h2 : 0 ≤ l) (h3 : l < 281474976710656) (w : World) :
    Calls Tryz.prog 39 #[.int .u64 t, .int .u64 l] w fun e w' => e = .returned (.int .u64 (18444492273895866368 + t * 281474976710656 + l)) ∧ w' = w := by
  have hq := join_eq t l h0 h1 h2 h3
  have Hq : Hid (bits .or .u64 (bits .or .u64 18444492273895866368 (IntKind.u64.wrap (t * 281474976710656))) l = 18444492273895866368 + t * 281474976710656 + l) := hq
  clear hq h0 h1 h2 h3
  go_enter Tryz.func39, Tryz.ntmps39
  go_wp2
  go_ret
  exact ⟨ret_int Hq.out, rfl⟩
set_option maxHeartbeats 400000 in
theorem split_c (n : Int) (h0 : 0 ≤ n) (h1 : n < 18446744073709551616) (w : World) :
    Calls Tryz.prog 81 #[.int .u64 n] w fun e w' => e = .returned (.tuple #[.int .u64 (n / 1099511627776), .int .u64 (n % 1099511627776)]) ∧ w' = w := by
  go_enter Tryz.func81, Tryz.ntmps81
  go_wp2
  go_ret2
  exact ⟨ret_pair rfl (int_eq (room_eq n h0 h1)), rfl⟩
set_option maxHeartbeats 400000 in
theorem plain_c (n : Int) (w : World) :
    Calls Tryz.prog 77 #[.int .u64 n] w fun e w' => e = .returned (.int .i64 (plainCls n)) ∧ w' = w := by
  have P0 : Hid (n = 0 → plainCls n = 3) := by intro h; simp [plainCls, h]
  have P1 : Hid (n = 1 ∨ n = 2 → plainCls n = 4) := by intro h; rcases h with h | h <;> simp [plainCls, h]
  have P3 : Hid (n ≠ 0 → n ≠ 1 → n ≠ 2 → plainCls n = 7) := by intro a b c; simp [plainCls, a, b, c]
  go_enter Tryz.func77, Tryz.ntmps77
  go_wp2
  all_goals go_ret
  · exact ⟨ret_int (P0.out (by simp_all)).symm, rfl⟩
  · exact ⟨ret_int (P1.out (by simp_all)).symm, rfl⟩
  · exact ⟨ret_int (P1.out (by simp_all)).symm, rfl⟩
  · exact ⟨ret_int (P3.out (by simp_all) (by simp_all) (by simp_all)).symm, rfl⟩
theorem nan_ref1 (n : Int) (h : n / 4503599627370496 % 2048 = 2047) : (n % 4503599627370496 != 0) = nanB n := by
  unfold nanB
  rw [Bool.eq_iff_iff]
  simp only [bne_iff_ne, ne_eq, decide_eq_true_eq]
  omega
theorem nan_ref2 (n : Int) (h : ¬ n / 4503599627370496 % 2048 = 2047) : false = nanB n := by
  unfold nanB
  rw [Bool.eq_iff_iff]
  simp only [Bool.false_eq_true, decide_eq_true_eq, false_iff]
  omega
set_option maxHeartbeats 400000 in
theorem refNaN_c (n : Int) (h0 : 0 ≤ n) (h1 : n < 18446744073709551616) (w : World) :
    Calls Tryz.prog 15 #[.int .u64 n] w fun e w' => e = .returned (.bool (nanB n)) ∧ w' = w := by
  go_enter Tryz.func15, Tryz.ntmps15
  go_wp2
  all_goals go_ret
  · exact ⟨ret_bool (nan_ref1 n (by assumption)), rfl⟩
  · exact ⟨ret_bool (nan_ref2 n (by assumption)), rfl⟩
theorem pow_step (j k : Nat) (h : k < 64) (hj : j < k) : IntKind.u64.wrap (2 * 2 ^ j) = (2 : Int) ^ (j + 1) := by
  have e : (2 : Int) ^ (j + 1) = 2 * 2 ^ j := by rw [Int.pow_succ]; omega
  have l : (2 : Nat) ^ (j + 1) ≤ 2 ^ 63 := Nat.pow_le_pow_right (by decide) (by omega)
  have c : ((2 ^ (j + 1) : Nat) : Int) = (2 : Int) ^ (j + 1) := by simp
  rw [← e, ← c, IntKind.wrap_u64]
  have p : (2 : Nat) ^ 63 = 9223372036854775808 := by decide
  exact Int.emod_eq_of_lt (Int.natCast_nonneg _) (by omega)
set_option maxHeartbeats 400000 in
theorem power_c (k : Nat) (h : k < 64) (w : World) :
    Calls Tryz.prog 31 #[.int .i64 k] w fun e w' => e = .returned (.int .u64 (2 ^ k)) ∧ w' = w := by
  go_enter Tryz.func31, Tryz.ntmps31
  go_wp2
  go_loop [3, 4] (fun p i => ∃ j : Nat, j ≤ k ∧ i = .int .i64 j ∧ p = .int .u64 (2 ^ j)) (fun _ i => k - (intOf i).toNat)
  case atStart => exact ⟨0, Nat.zero_le _, rfl, rfl⟩
  case round =>
    obtain ⟨j, hj, rfl, rfl⟩ := hrel
    by_cases hlt : j < k
    · go_wp2
      go_round
      case rel => exact ⟨j + 1, hlt, by go_num, int_eq (pow_step j k h hlt)⟩
      case measure => simp [intOf]; omega
    · go_wp2
      go_ret
      have hjk : j = k := by omega
      exact ⟨ret_int (by rw [hjk]), rfl⟩
/-- the same, the argument a plain number -/
theorem power_i (k : Int) (h0 : 0 ≤ k) (h : k < 64) (w : World) :
    Calls Tryz.prog 31 #[.int .i64 k] w fun e w' => e = .returned (.int .u64 (2 ^ k.toNat)) ∧ w' = w := by
  obtain ⟨m, rfl⟩ := Int.eq_ofNat_of_zero_le h0
  exact power_c m (by omega) w
end Go.Proofs.YthgcdohndchdkaaGreatDoor.W
/- A map with strings for keys, as a list: what is put in and what is looked up. -/
namespace Go.Proofs.YthgcdohndchdkaaGreatDoor.W
open Go.ChangeShapes Go.WideShapes Go.RowKit Go.ChangeMaps
set_option linter.unusedVariables false
/-- a map with strings for keys, in the order in which they came -/
def MapL (w : World) (b : Nat) (l : List (ByteArray × Value)) : Prop := ∃ es clock, w.heap[b]? = some (.map es clock) ∧ es.toList.map (fun e => (e.key, e.val)) = l.map (fun p => (Value.string p.1, p.2))
def findL : List (ByteArray × Value) → ByteArray → Option Value
  | [], _ => none
  | p :: l, s => if (s == p.1) = true then some p.2 else findL l s
theorem findNow_l (s : ByteArray) : ∀ (es : List MapEntry) (l : List (ByteArray × Value)) (i : Nat), es.map (fun e => (e.key, e.val)) = l.map (fun p => (Value.string p.1, p.2)) →
    (findL l s = none → Instr.findNow .string (.string s) es i = some none) ∧ (∀ v, findL l s = some v → ∃ j, Instr.findNow .string (.string s) es i = some (some (j, v)))
  | [], [], i, _ => ⟨fun _ => rfl, fun v h => by cases h⟩
  | [], _ :: _, i, h => by simp at h
  | _ :: _, [], i, h => by simp at h
  | e :: es, p :: l, i, h => by
    simp only [List.map_cons, List.cons.injEq, Prod.mk.injEq] at h
    obtain ⟨⟨hk, hv⟩, ht⟩ := h
    have ih := findNow_l s es l (i + 1) ht
    unfold findL Instr.findNow
    rw [hk]
    by_cases c : (s == p.1) = true
    · rw [if_pos c]
      refine ⟨fun h => (by cases h), fun v h => ⟨i, ?_⟩⟩
      cases h
      simp only [Instr.sameNow, c]
      rw [hv]
    · rw [if_neg c]
      have c' : (s == p.1) = false := by simpa using c
      simp only [Instr.sameNow, c']
      exact ih
theorem cell_keep {w w' : World} (hB : Below w.heap.size w w') {p : Addr} {v : Value} (h : w.cell? p = some v) : w'.cell? p = some v := by
  rw [hB.cell (p := p) ?_]
  · exact h
  · by_cases c : p.block < w.heap.size
    · exact c
    · simp [World.cell?, Array.getElem?_eq_none (Nat.not_lt.1 c)] at h
section
variable {P : Program} {w : World} {t k e : TypeId} {b : Nat} {l : List (ByteArray × Value)}
theorem MapL.below {w' : World} (h : MapL w b l) (hB : Below w.heap.size w w') : MapL w' b l := by
  obtain ⟨es, clock, h1, h2⟩ := h
  exact ⟨es, clock, (hB.block b (Array.getElem?_eq_some_iff.1 h1).1).trans h1, h2⟩
theorem MapL.lt (h : MapL w b l) : b < w.heap.size := by
  obtain ⟨es, clock, h1, h2⟩ := h
  exact (Array.getElem?_eq_some_iff.1 h1).1
theorem mapL_new (w : World) : MapL (w.alloc (.map #[] 0)) w.heap.size [] := ⟨#[], 0, (MapKept.heap_alloc w _).1, rfl⟩
theorem run_insert_l (ht : P.underlying t = some (.map k e)) (hk : P.underlying k = some .string) (h : MapL w b l) (s : ByteArray) (v : Value) (hn : findL l s = none) :
    ∃ w', (Instr.mapUpdate t (.map (some b)) (.string s) v).run P w = .ok () w' ∧ MapL w' b (l ++ [(s, v)]) ∧ w.grownBy w' (some b) := by
  obtain ⟨es, clock, hb, h2⟩ := h
  have h1 := (findNow_l s es.toList l 0 h2).1 hn
  have hc : (Instr.checkKey false 10000 k (.string s)).run P w = .ok () w := MapKept.run_checkKey (k := .string s) hk (by simp [MapKept.IsKey]) false 9999
  refine ⟨setBlock w b (.map (es.push ⟨.string s, v, clock⟩) (clock + 1)), ?_, ⟨_, _, heap_setBlock_same hb _, ?_⟩, ⟨rfl, rfl, rfl, by simp [setBlock], fun i _ hi => heap_setBlock_other hb _ (fun e => hi (by rw [e]))⟩⟩
  · simp [Instr.mapUpdate, run_underlying ht, MapKept.run_getObj_map hb, hc, MapKept.run_findKey hk h1, MapKept.run_setObj_map _ hb, Result.andThen, setBlock]
  · rw [Array.toList_push, List.map_append, List.map_append, h2]
    rfl
theorem run_lookup_l (ht : P.underlying t = some (.map k e)) (hk : P.underlying k = some .string) (h : MapL w b l) (s : ByteArray) (v : Value) (hv : findL l s = some v) :
    (Instr.lookup t (.map (some b)) (.string s) true).run P w = .ok (.tuple #[v, .bool true]) w := by
  obtain ⟨es, clock, hb, h2⟩ := h
  obtain ⟨j, h1⟩ := (findNow_l s es.toList l 0 h2).2 v hv
  have hc : (Instr.checkKey es.isEmpty 10000 k (.string s)).run P w = .ok () w := MapKept.run_checkKey (k := .string s) hk (by simp [MapKept.IsKey]) _ 9999
  simp [Instr.lookup, run_underlying ht, MapKept.run_getObj_map hb, hc, MapKept.run_findKey hk h1, Result.andThen]
/-- a pair is put in, at the operation -/
theorem wpList_insert_l {ops : Array Oper} {rest : List Oper} {o : Oper} {a : Act} {Q : Exit → Act → World → Prop}
    (hg : o.guard = none) (m x v : Operand) (t : TypeId) (hop : o.op = Op.insert t m x v) (k e : TypeId) (ht : P.underlying t = some (.map k e)) (hk : P.underlying k = some .string)
    (b : Nat) (hm : a.eval m = .map (some b)) (h : MapL w b l) (s : ByteArray) (val : Value) (hx : a.eval x = .string s) (hv : a.eval v = val) (hn : findL l s = none)
    (hK : ∀ w', MapL w' b (l ++ [(s, val)]) → w.grownBy w' (some b) → wpList P ops Q rest (a.put o.dst undef) w') :
    wpList P ops Q (o :: rest) a w := by
  refine wpList_plain hg fun K' hK' => ?_
  obtain ⟨w', hrun, r1, r2⟩ := run_insert_l ht hk h s val hn
  unfold Oper.wp
  simp [execOp, hop, hm, hx, hv, hrun, Result.andThen]
  exact hK' _ _ (hK w' r1 r2)
end
end Go.Proofs.YthgcdohndchdkaaGreatDoor.W
/- Package ops: its map of functions. -/
namespace Go.Proofs.YthgcdohndchdkaaGreatDoor.W
open Go.ChangeShapes Go.WideShapes Go.RowKit Go.ChangeMaps
set_option linter.unusedVariables false
theorem underBM : Tryz.prog.underlying 72 = some (.map 9 70) := by kernel_rfl
theorem underBS : Tryz.prog.underlying 9 = some .string := by kernel_rfl
/-- the built-in functions -/
def opsL (x5 x6 x7 x8 x9 : Nat) : List (ByteArray × Value) := [(⟨#[105, 110, 116]⟩, .agg #[.int .i64 1, .func (.func 59) #[] #[]]), (⟨#[102, 108, 111, 97, 116]⟩, .agg #[.int .i64 1, .func (.func 60) #[] #[]]), (⟨#[116, 101, 120, 116]⟩, .agg #[.int .i64 1, .func (.func 61) #[] #[]]), (⟨#[110, 117, 109]⟩, .agg #[.int .i64 1, .func (.func 62) #[] #[]]), (⟨#[108, 101, 110]⟩, .agg #[.int .i64 1, .func (.func 63) #[] #[]]), (⟨#[115, 117, 98]⟩, .agg #[.int .i64 3, .func (.func 64) #[] #[]]), (⟨#[98, 121, 116, 101]⟩, .agg #[.int .i64 2, .func (.func 65) #[] #[]]), (⟨#[99, 104, 114]⟩, .agg #[.int .i64 1, .func (.func 66) #[] #[]]), (⟨#[98, 105, 116, 115]⟩, .agg #[.int .i64 1, .func (.func 67) #[] #[]]), (⟨#[102, 114, 111, 109, 98, 105, 116, 115]⟩, .agg #[.int .i64 1, .func (.func 68) #[] #[]]), (⟨#[102, 54, 52]⟩, .agg #[.int .i64 1, .func (.func 139) #[] #[.pointer (some ⟨x5, 0, none⟩)]]), (⟨#[102, 51, 50]⟩, .agg #[.int .i64 1, .func (.func 139) #[] #[.pointer (some ⟨x6, 0, none⟩)]]), (⟨#[105, 49, 54]⟩, .agg #[.int .i64 1, .func (.func 139) #[] #[.pointer (some ⟨x7, 0, none⟩)]]), (⟨#[117, 56]⟩, .agg #[.int .i64 1, .func (.func 139) #[] #[.pointer (some ⟨x8, 0, none⟩)]]), (⟨#[114, 111, 119]⟩, .agg #[.int .i64 1, .func (.func 139) #[] #[.pointer (some ⟨x9, 0, none⟩)]]), (⟨#[118, 105, 101, 119]⟩, .agg #[.int .i64 4, .func (.func 70) #[] #[]]), (⟨#[108, 111, 97, 100]⟩, .agg #[.int .i64 2, .func (.func 71) #[] #[]]), (⟨#[115, 116, 111, 114, 101]⟩, .agg #[.int .i64 3, .func (.func 72) #[] #[]]), (⟨#[107, 105, 110, 100]⟩, .agg #[.int .i64 1, .func (.func 73) #[] #[]])]
theorem makes_c (k : Int) (W : World) : Calls Tryz.prog 69 #[.int .i64 k] W fun e w' => e = .returned (.func (.func 139) #[] #[.pointer (some ⟨W.heap.size, 0, none⟩)]) ∧ W.heap.size < w'.heap.size ∧ Below W.heap.size W w' := by
  have hB : Below W.heap.size W (W.alloc (.cells #[.int .i64 k] 3)) := (Below.refl _ W).alloc (Nat.le_refl _) _
  have hz : W.heap.size < (W.alloc (.cells #[.int .i64 k] 3)).heap.size := by rw [World.size_alloc]; exact Nat.lt_succ_self _
  go_enter Tryz.func69, Tryz.ntmps69
  go_wp2
  go_ret
  exact ⟨rfl, hz, hB⟩
set_option maxRecDepth 100000 in
set_option maxHeartbeats 2000000 in
theorem builtins_c (W : World) : Calls Tryz.prog 30 #[] W fun e w' => ∃ b x5 x6 x7 x8 x9, e = .returned (.map (some b)) ∧ MapL w' b (opsL x5 x6 x7 x8 x9) ∧ Below W.heap.size W w' := by
  have hmm := @run_makeMap Tryz.prog
  have HL := mapL_new W
  have HB : Below W.heap.size W (W.alloc (.map #[] 0)) := (Below.refl _ W).alloc (Nat.le_refl _) _
  go_enter Tryz.func30, Tryz.ntmps30
  go_wp2_with (first | (go_at_call 69; (with_reducible refine (makes_c _ _).mono ?_); rintro e w1 ⟨rfl, hz, hB⟩; replace HL := HL.below hB; replace HB := HB.trans (hB.mono HB.size); (generalize World.heap _ = hx at hz; clear hz hB)) | (refine wpList_insert_l rfl _ _ _ _ rfl _ _ underBM underBS _ rfl HL _ _ rfl rfl (by kernel_rfl) ?_; clear HL; intro w1 HL hg; replace HB := HB.grown hg HB.size (fun j hj => by cases hj; exact Nat.le_refl _); clear hg))
  go_ret
  exact ⟨_, _, _, _, _, _, rfl, HL, HB⟩
end Go.Proofs.YthgcdohndchdkaaGreatDoor.W
/- Package ops: of a kind. -/
namespace Go.Proofs.YthgcdohndchdkaaGreatDoor.W
open Go.ChangeShapes Go.WideShapes Go.RowKit
set_option linter.unusedVariables false
theorem eq_not (a b : Int) : (a == b) = !(a != b) := by unfold bne; cases (a == b) <;> rfl
set_option maxRecDepth 100000 in
theorem are1_c (W : World) (hb vb pb : Nat) (n : Nat) (vw vr : Value) (k kd0 : Int) (hn : 0 < n) (hm : n ≤ 1000) (hp0 : W.cell? ⟨pb, 0, none⟩ = some (.int .i64 0)) (hk0 : W.cell? ⟨vb, 0, none⟩ = some (.int .i64 kd0)) :
    Calls Tryz.prog 93 #[.agg #[.pointer (some ⟨hb, 0, none⟩), vw, .slice (some ⟨vb, 0, none⟩) n n, vr], .int .i64 k, .slice (some ⟨pb, 0, none⟩) 1 1] W fun e w' => e = .returned (.bool ((kd0 == k))) ∧ Below W.heap.size W w' := by
  have hB : Below W.heap.size W (W.alloc (.cells #[.pointer (some ⟨hb, 0, none⟩), vw, .slice (some ⟨vb, 0, none⟩) n n, vr] 103)) := (Below.refl _ W).alloc (Nat.le_refl _) _
  replace hp0 := cell_keep hB hp0
  replace hk0 := cell_keep hB hk0
  have hn0 : (0 : Int) < (n : Int) := by omega
  have e0 := World.cell?_alloc_new W #[.pointer (some ⟨hb, 0, none⟩), vw, .slice (some ⟨vb, 0, none⟩) n n, vr] 103
  rw [eq_not kd0 k]
  go_enter Tryz.func93, Tryz.ntmps93
  go_upto_region 2 with fail
  go_wp2
  refine wp_loop_rounds 2 ?_
  cases hq0 : (kd0 != k)
  rotate_left
  · rw [rounds_succ]
    go_wp2
    go_ret
    exact ⟨by rw [hq0]; rfl, hB⟩
  rw [rounds_succ]
  go_wp2
  rw [rounds_succ]
  go_wp2
  go_ret
  exact ⟨by rw [hq0]; rfl, hB⟩
set_option maxRecDepth 100000 in
theorem are2_c (W : World) (hb vb pb : Nat) (n : Nat) (vw vr : Value) (k kd0 kd1 : Int) (hn : 1 < n) (hm : n ≤ 1000) (hp0 : W.cell? ⟨pb, 0, none⟩ = some (.int .i64 0)) (hp1 : W.cell? ⟨pb, 1, none⟩ = some (.int .i64 1)) (hk0 : W.cell? ⟨vb, 0, none⟩ = some (.int .i64 kd0)) (hk1 : W.cell? ⟨vb, 5, none⟩ = some (.int .i64 kd1)) :
    Calls Tryz.prog 93 #[.agg #[.pointer (some ⟨hb, 0, none⟩), vw, .slice (some ⟨vb, 0, none⟩) n n, vr], .int .i64 k, .slice (some ⟨pb, 0, none⟩) 2 2] W fun e w' => e = .returned (.bool ((kd0 == k) && (kd1 == k))) ∧ Below W.heap.size W w' := by
  have hB : Below W.heap.size W (W.alloc (.cells #[.pointer (some ⟨hb, 0, none⟩), vw, .slice (some ⟨vb, 0, none⟩) n n, vr] 103)) := (Below.refl _ W).alloc (Nat.le_refl _) _
  replace hp0 := cell_keep hB hp0
  replace hk0 := cell_keep hB hk0
  have hn0 : (0 : Int) < (n : Int) := by omega
  replace hp1 := cell_keep hB hp1
  replace hk1 := cell_keep hB hk1
  have hn1 : (1 : Int) < (n : Int) := by omega
  have e0 := World.cell?_alloc_new W #[.pointer (some ⟨hb, 0, none⟩), vw, .slice (some ⟨vb, 0, none⟩) n n, vr] 103
  rw [eq_not kd0 k, eq_not kd1 k]
  go_enter Tryz.func93, Tryz.ntmps93
  go_upto_region 2 with fail
  go_wp2
  refine wp_loop_rounds 3 ?_
  cases hq0 : (kd0 != k)
  rotate_left
  · rw [rounds_succ]
    go_wp2
    go_ret
    exact ⟨by rw [hq0]; rfl, hB⟩
  rw [rounds_succ]
  go_wp2
  cases hq1 : (kd1 != k)
  rotate_left
  · rw [rounds_succ]
    go_wp2
    go_ret
    exact ⟨by rw [hq0, hq1]; rfl, hB⟩
  rw [rounds_succ]
  go_wp2
  rw [rounds_succ]
  go_wp2
  go_ret
  exact ⟨by rw [hq0, hq1]; rfl, hB⟩
end Go.Proofs.YthgcdohndchdkaaGreatDoor.W
/- Plain facts on words of IEEE 754: what a word reads as, that what is written is no NaN, how two words compare. No Go in sight. -/
namespace Go.Proofs.YthgcdohndchdkaaGreatDoor.W.Nu
open Ieee

/-- is a pattern a NaN? -/
def nanB (n : Int) : Bool := decide (9218868437227405312 < n % 9223372036854775808)
/-- a pattern, with all NaNs made one -/
def fltW (n : Int) : Int := if nanB n = true then 9221120237041090560 else n

theorem D_sign : Ieee.double.signWeight = 9223372036854775808 := by decide
theorem D_bin : Ieee.double.binade = 4503599627370496 := by decide
theorem D_inf : Ieee.double.infRung = 9218868437227405312 := by decide
theorem D_least : Ieee.double.leastPlace = -1074 := by decide
theorem D_width : Ieee.double.width = 64 := by decide

theorem word_eq (s : Bool) (r : Nat) : Ieee.double.word s r = (if s then 9223372036854775808 else 0) + r := by
  unfold Format.word
  rw [D_sign]
  cases s <;> simp

theorem read_eq (x : Nat) : Ieee.double.read x =
    if x % 9223372036854775808 < 4503599627370496 then .number (x / 9223372036854775808 % 2 == 1) (x % 9223372036854775808) (-1074)
    else if x % 9223372036854775808 < 9218868437227405312 then
      .number (x / 9223372036854775808 % 2 == 1) (4503599627370496 + x % 9223372036854775808 % 4503599627370496) (-1074 + (x % 9223372036854775808 / 4503599627370496 - 1 : Nat))
    else if x % 9223372036854775808 = 9218868437227405312 then .infinity (x / 9223372036854775808 % 2 == 1)
    else .nan (x / 9223372036854775808 % 2 == 1) (x % 9223372036854775808 - 9218868437227405312) := by
  unfold Format.read
  simp only [D_sign, D_bin, D_inf, D_least]

theorem nan_read (x : Nat) : (Ieee.double.read x).isNaN = nanB x := by
  rw [read_eq, nanB]
  have e : ((x : Int) % 9223372036854775808) = ((x % 9223372036854775808 : Nat) : Int) := by omega
  rw [e]
  split
  · rename_i h; simp [Datum.isNaN]; omega
  · split
    · rename_i h; simp [Datum.isNaN]; omega
    · split
      · rename_i h; simp [Datum.isNaN]; omega
      · rename_i h1 h2 h3; simp [Datum.isNaN]; omega

theorem order_self (d : Datum) : (d.order d != some .eq) = d.isNaN := by
  cases d with
  | number s m i => simp [Datum.order, Datum.isNaN, compare, compareOfLessAndEq]
  | infinity s => cases s <;> rfl
  | nan s t => rfl

theorem isNaN_eq (x : Nat) : (Ieee.double.order x x != some .eq) = nanB x := by
  rw [← nan_read]; exact order_self _

/-- a word whose rung is not above infinity's is no NaN -/
theorem word_plain (s : Bool) (r : Nat) (h : r ≤ 9218868437227405312) : nanB (Ieee.double.word s r : Nat) = false := by
  rw [word_eq, nanB]
  cases s <;> simp <;> omega
theorem nearest_plain (s : Bool) (m : Nat) (p : Int) : nanB (Ieee.double.nearest s m p : Nat) = false := by
  unfold Format.nearest
  split
  · exact word_plain _ _ (by omega)
  · rw [D_inf]; exact word_plain _ _ (Nat.min_le_right ..)
theorem write_plain (d : Datum) (h : d.isNaN = false) : nanB (Ieee.double.write d : Nat) = false := by
  cases d with
  | number s m p => exact nearest_plain s m p
  | infinity s => exact word_plain s _ (by rw [D_inf]; omega)
  | nan s t => exact absurd h (by simp [Datum.isNaN])
theorem write_lt (d : Datum) : Ieee.double.write d < 18446744073709551616 := by
  have := Ieee.double.write_lt d
  rwa [D_width] at this

theorem sum_plain {a b d : Datum} (h : a.sum b = some d) : d.isNaN = false := by
  cases a <;> cases b <;> simp [Datum.sum] at h <;> (try (rcases h with ⟨_, h⟩)) <;> (try subst h) <;> rfl
theorem product_plain {a b d : Datum} (h : a.product b = some d) : d.isNaN = false := by
  cases a <;> cases b <;> simp [Datum.product] at h <;> (try (rcases h with ⟨_, h⟩)) <;> (try subst h) <;> rfl
theorem quotient_plain {k : Nat} {a b d : Datum} (h : a.quotient k b = some d) : d.isNaN = false := by
  cases a with
  | nan s t => simp [Datum.quotient] at h
  | infinity s => cases b <;> simp [Datum.quotient] at h <;> subst h <;> rfl
  | number s m i =>
    cases b with
    | nan t u => simp [Datum.quotient] at h
    | infinity t => simp [Datum.quotient] at h; subst h; rfl
    | number t n j =>
      simp only [Datum.quotient] at h
      split at h
      · split at h
        · cases h
        · cases h; rfl
      · cases h; rfl

theorem floatBits_plain {op : BinOp} {x y r : Nat} (h : floatBits op .f64 x y = some r) : nanB (r : Int) = false := by
  unfold floatBits at h
  have go : ∀ o : Option Datum, (∀ d, o = some d → d.isNaN = false) → o.map Ieee.double.write = some r → nanB (r : Int) = false := by
    intro o ho hm
    cases o with
    | none => cases hm
    | some d => cases hm; exact write_plain d (ho d rfl)
  split at h
  · exact go _ (fun d => sum_plain) h
  · exact go _ (fun d => sum_plain) h
  · exact go _ (fun d => product_plain) h
  · exact go _ (fun d => quotient_plain) h
  · cases h
theorem floatBits_lt {op : BinOp} {x y r : Nat} (h : floatBits op .f64 x y = some r) : r < 18446744073709551616 := by
  have := floatBits_wf h
  simpa [Lit.wf] using this

/-- a NaN that the tape names is a NaN -/
theorem nanBits_nan (x y t : Nat) : nanB ((Question.nanBits .f64 x y).cut t : Nat) = true := by
  show decide (9218868437227405312 < (((t % 2) * 9223372036854775808 + 9218868437227405312 + 1 + (t / 2) % 4503599627370495 : Nat) : Int) % 9223372036854775808) = true
  rw [decide_eq_true_eq]
  have h1 : t / 2 % 4503599627370495 < 4503599627370495 := Nat.mod_lt _ (by omega)
  have h2 : t % 2 = 0 ∨ t % 2 = 1 := by omega
  generalize t / 2 % 4503599627370495 = q at *
  generalize t % 2 = s at *
  rcases h2 with rfl | rfl <;> omega
/-- what an operation on two patterns answers -/
def opI (op : BinOp) (a b : Int) : Int := match floatBits op .f64 a.toNat b.toNat with | some r => (r : Int) | none => 9221120237041090560
theorem opI_range (op : BinOp) (a b : Int) : 0 ≤ opI op a b ∧ opI op a b < 18446744073709551616 := by
  unfold opI
  split
  · rename_i r h; have := floatBits_lt h; omega
  · omega
/-! ### the walk's laws -/
/-- what '+', '-', '*', '/' on doubles give: the bits, or a NaN that the tape names -/
def fres (op : BinOp) (x y : Nat) (w : World) : Nat :=
  match floatBits op .f64 x y with | some r => r | none => (Question.nanBits .f64 x y).cut (w.tape w.drawn (.nanBits .f64 x y))
def fdraw (op : BinOp) (x y : Nat) : Nat := match floatBits op .f64 x y with | some _ => 0 | none => 1
theorem fltW_fres (op : BinOp) (a b : Int) (w : World) : fltW (fres op a.toNat b.toNat w : Nat) = opI op a b := by
  unfold fres opI
  split
  · rename_i r h; rw [fltW, floatBits_plain h]; simp
  · rw [fltW, nanBits_nan]; simp

theorem run_fop (P : Program) (op : BinOp) (hop : op = .add ∨ op = .sub ∨ op = .mul ∨ op = .quo) (t : TypeId) (x y : Nat) (w : World) :
    (binOp op t (.float .f64 x) (.float .f64 y)).run P w = .ok (.float .f64 (fres op x y w)) (w.drewN (fdraw op x y)) := by
  cases h : floatBits op .f64 x y with
  | some r =>
    rw [run_float_arith w op t .f64 x y r h]
    simp [fres, fdraw, h, World.drewN_zero]
  | none =>
    have e1 : fres op x y w = (Question.nanBits .f64 x y).cut (w.tape w.drawn (.nanBits .f64 x y)) := by simp [fres, h]
    have e2 : fdraw op x y = 1 := by simp [fdraw, h]
    rw [e1, e2]
    rcases hop with rfl | rfl | rfl | rfl <;> simp only [floatBits] at h <;> simp [binOp, Op.floatArith, h, World.drew_is_drewN, Question.forced]

/-! ### Floor, and widths -/
theorem nan_write (s : Bool) (t : Nat) (h : t % 4503599627370496 ≠ 0) : nanB (Ieee.double.write (.nan s t) : Nat) = true := by
  have e : Ieee.double.write (.nan s t) = Ieee.double.word s (Ieee.double.infRung + t % Ieee.double.binade) := rfl
  rw [e, word_eq, D_inf, D_bin, nanB, decide_eq_true_eq]
  have : t % 4503599627370496 < 4503599627370496 := Nat.mod_lt _ (by omega)
  cases s <;> simp <;> omega
theorem quiet_mod (t : Nat) : Ieee.double.quiet t % 4503599627370496 ≠ 0 := by
  have e : Ieee.double.quiet t = t ||| 2 ^ 51 := rfl
  rw [e]
  intro h
  have h1 : ((t ||| 2 ^ 51) % 2 ^ 52).testBit 51 = true := by
    rw [Nat.testBit_mod_two_pow, Nat.testBit_or, Nat.testBit_two_pow_self]
    simp
  rw [show (2 : Nat) ^ 52 = 4503599627370496 from by decide, h] at h1
  simp at h1

/-- what Floor answers -/
def floorI (a : Int) : Int := if nanB a = true then 9221120237041090560 else (Ieee.double.write ((Ieee.double.read a.toNat).integral .down) : Nat)
/-- what the machine's own floor hands back: of a NaN that is not quiet the tape says which NaN -/
def flres (P : Program) (x : Nat) (w : World) : Nat :=
  match (Extern.MathFloor.toIntegral "math.archFloor" .down #[.float .f64 x]).run P w with
  | .ok (.float _ r) _ => r
  | _ => 0
def fldraw (x : Nat) : Nat :=
  match Ieee.double.read x with
  | .nan _ t => if Ieee.double.quiet t = t then 0 else 1
  | _ => 0
theorem integral_plain (way : Toward) (d : Datum) : (d.integral way).isNaN = d.isNaN := by cases d <;> rfl
/-- the entry's text, with the question that it asks of a NaN that is not quiet -/
theorem floor_text : ∃ q : Question, (∀ x, Extern.MathFloor.toIntegral "math.archFloor" .down #[.float .f64 x] =
      (match Ieee.double.read x with
      | .nan s t =>
        if Ieee.double.quiet t = t then pure (.float .f64 x) else do
        let kept ← choose q
        pure (.float .f64 (if kept == 1 then x else Ieee.double.write (.nan s (Ieee.double.quiet t))))
      | d => pure (.float .f64 (Ieee.double.write (d.integral .down))) : Sem Value)) ∧ q.forced = false :=
  ⟨_, fun _ => rfl, rfl⟩
theorem floor_run (P : Program) (x : Nat) (w : World) : ∃ r, (Extern.MathFloor.toIntegral "math.archFloor" .down #[.float .f64 x]).run P w = .ok (.float .f64 r) (w.drewN (fldraw x)) ∧
    (x < 18446744073709551616 → r < 18446744073709551616) ∧ (nanB (x : Nat) = true → nanB (r : Nat) = true) ∧ (nanB (x : Nat) = false → r = Ieee.double.write ((Ieee.double.read x).integral .down)) := by
  have hn := nan_read x
  obtain ⟨q, hq, hf⟩ := floor_text
  rw [hq x]
  unfold fldraw
  cases hd : Ieee.double.read x with
  | number s m i =>
    rw [hd] at hn
    refine ⟨Ieee.double.write ((Datum.number s m i).integral .down), by simp [World.drewN_zero], fun _ => write_lt _, fun h => ?_, fun _ => rfl⟩
    rw [← hn] at h; cases h
  | infinity s =>
    rw [hd] at hn
    refine ⟨Ieee.double.write ((Datum.infinity s).integral .down), by simp [World.drewN_zero], fun _ => write_lt _, fun h => ?_, fun _ => rfl⟩
    rw [← hn] at h; cases h
  | nan s t =>
    rw [hd] at hn
    have hn' : nanB (x : Nat) = true := by rw [← hn]; rfl
    have h2 : nanB (Ieee.double.write (.nan s (Ieee.double.quiet t)) : Nat) = true := nan_write s _ (quiet_mod t)
    by_cases h : Ieee.double.quiet t = t
    · refine ⟨x, by simp [h, World.drewN_zero], fun hx => hx, fun _ => hn', fun g => ?_⟩
      rw [hn'] at g; cases g
    · refine ⟨if q.cut (w.tape w.drawn q) == 1 then x else Ieee.double.write (.nan s (Ieee.double.quiet t)), by simp [h, hf, World.drew_is_drewN], ?_, ?_, fun g => ?_⟩
      · intro hx; split
        · exact hx
        · exact write_lt _
      · intro _; split
        · exact hn'
        · exact h2
      · rw [hn'] at g; cases g
theorem flres_eq (P : Program) (x : Nat) (w : World) : (Extern.MathFloor.toIntegral "math.archFloor" .down #[.float .f64 x]).run P w = .ok (.float .f64 (flres P x w)) (w.drewN (fldraw x)) ∧
    (x < 18446744073709551616 → flres P x w < 18446744073709551616) ∧ (nanB (x : Nat) = true → nanB (flres P x w : Nat) = true) ∧ (nanB (x : Nat) = false → flres P x w = Ieee.double.write ((Ieee.double.read x).integral .down)) := by
  obtain ⟨r, h1, h2, h3, h4⟩ := floor_run P x w
  have e : flres P x w = r := by unfold flres; rw [h1]
  rw [e]
  exact ⟨h1, h2, h3, h4⟩
theorem fltW_flres (P : Program) (a : Int) (h0 : 0 ≤ a) (w : World) : fltW (flres P a.toNat w : Nat) = floorI a := by
  obtain ⟨-, -, h3, h4⟩ := flres_eq P a.toNat w
  rw [Int.toNat_of_nonneg h0] at h3 h4
  unfold floorI
  cases hn : nanB a with
  | true => rw [fltW, h3 hn, if_pos rfl, if_pos rfl]
  | false =>
    rw [h4 hn]
    have hp : nanB (Ieee.double.write ((Ieee.double.read a.toNat).integral .down) : Nat) = false := write_plain _ (by rw [integral_plain, nan_read, Int.toNat_of_nonneg h0, hn])
    rw [fltW, hp]
theorem floorI_range (a : Int) : 0 ≤ floorI a ∧ floorI a < 18446744073709551616 := by
  unfold floorI
  split
  · omega
  · have := write_lt ((Ieee.double.read a.toNat).integral .down); omega
theorem run_floor (P : Program) (x : Nat) (w : World) :
    (Extern.MathFloor.toIntegral "math.archFloor" .down #[.float .f64 x]).run P w = .ok (.float .f64 (flres P x w)) (w.drewN (fldraw x)) := (flres_eq P x w).1

end Go.Proofs.YthgcdohndchdkaaGreatDoor.W.Nu
