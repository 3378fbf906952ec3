import Derived.Laws.BitsAllLaws
import Derived.Test.YtgkakflnmpoadaaGreatDoorProg
import Derived.WalkKit
import Derived.WalkLawsBesides
import Derived.Deep.QuietTactic
import Derived.BigQuiet
import Derived.Maps.OwnOps
import Derived.Below
import Derived.Deep.Cut
import Derived.Handy
import Derived.Laws.FloatArith
import Derived.Deep.Draws
import Derived.Laws.NewFold
import Derived.Laws.Externs
import Derived.KernelRfl
import Derived.Sort.Grow
import Derived.Shelf.SlSortCmp.QuietGrown
import Derived.Deep.RegionHeld3
import Derived.RowKit3
/- Plain facts on numbers and rows of bytes that package word turns on: no Go in sight. -/
namespace Go.Proofs.YtgkakflnmpoadaaGreatDoor.W

/-- is a pattern a NaN? -/
def nanB (n : Int) : Bool := decide (9218868437227405312 < n % 9223372036854775808)

/-- may a load be a string's? -/
def txtOk (l : Int) : Bool := decide (l / 1099511627776 ≤ 5 ∧ l % 1099511627776 < 2 ^ (8 * (l / 1099511627776)).toNat)

/-- a pattern's class -/
def cls (n : Int) : Int :=
  if nanB n = false ∨ n = 9221120237041090560 then 1
  else if n < 18444492273895866368 then 7
  else if n = 18444492273895866368 then 3
  else if n = 18444492273895866369 ∨ n = 18444492273895866370 then 4
  else if n < 18444773748872577024 then 7
  else if n < 18445055223849287680 then 2
  else if n < 18445336698825998336 then (if txtOk (n % 281474976710656) = true then 5 else 7)
  else if n < 18445618173802708992 then 6
  else 7

/-- the class of a load behind the tag 0 -/
def plainCls (l : Int) : Int := if l = 0 then 3 else if l = 1 ∨ l = 2 then 4 else 7
def textCls (l : Int) : Int := if txtOk l = true then 5 else 7

theorem and_shift (x m i : Nat) : x &&& (m * 2 ^ i) = ((x / 2 ^ i) &&& m) * 2 ^ i := by
  apply Nat.eq_of_testBit_eq
  intro j
  rw [Nat.testBit_and, Nat.testBit_mul_two_pow, Nat.testBit_mul_two_pow, Nat.testBit_and, Nat.testBit_div_two_pow]
  by_cases h : i ≤ j
  · have e : i + (j - i) = j := by omega
    have e' : j - i + i = j := by omega
    simp [h, e']
  · simp [h]

theorem nan_eq (n : Int) (h0 : 0 ≤ n) (h1 : n < 18446744073709551616) : bits .andNot .u64 n 9223372036854775808 = n % 9223372036854775808 := by
  rw [u64_andNot n 9223372036854775808 h0 h1 (by decide) (by decide)]
  have e : (18446744073709551615 - (9223372036854775808 : Int).toNat) = 2 ^ 63 - 1 := by decide
  rw [e, Nat.and_two_pow_sub_one_eq_mod]
  omega
theorem tagged_eq (n : Int) (h0 : 0 ≤ n) (h1 : n < 18446744073709551616) : (bits .and .u64 n 18444492273895866368 == 18444492273895866368) = decide (18444492273895866368 ≤ n) := by
  rw [u64_and n 18444492273895866368 h0 h1 (by decide) (by decide)]
  have e : (18444492273895866368 : Int).toNat = 8191 * 2 ^ 51 := by decide
  rw [e, and_shift, show (8191 : Nat) = 2 ^ 13 - 1 from by decide, Nat.and_two_pow_sub_one_eq_mod]
  rw [Bool.eq_iff_iff]
  simp only [beq_iff_eq, decide_eq_true_eq]
  omega
theorem tag_eq (n : Int) (h0 : 0 ≤ n) (h1 : n < 18446744073709551616) : bits .and .u64 (n / 281474976710656) 7 = n / 281474976710656 % 8 := by
  rw [u64_and _ 7 (by omega) (by omega) (by decide) (by decide)]
  have e : (7 : Int).toNat = 2 ^ 3 - 1 := by decide
  rw [e, Nat.and_two_pow_sub_one_eq_mod]
  omega
theorem load_eq (n : Int) (h0 : 0 ≤ n) (h1 : n < 18446744073709551616) : bits .and .u64 n 281474976710655 = n % 281474976710656 := by
  rw [u64_and n _ h0 h1 (by decide) (by decide)]
  have e : (281474976710655 : Int).toNat = 2 ^ 48 - 1 := by decide
  rw [e, Nat.and_two_pow_sub_one_eq_mod]
  omega
theorem room_eq (n : Int) (h0 : 0 ≤ n) (h1 : n < 18446744073709551616) : bits .and .u64 n 1099511627775 = n % 1099511627776 := by
  rw [u64_and n _ h0 h1 (by decide) (by decide)]
  have e : (1099511627775 : Int).toNat = 2 ^ 40 - 1 := by decide
  rw [e, Nat.and_two_pow_sub_one_eq_mod]
  omega
theorem join_eq (t l : Int) (h0 : 0 ≤ t) (h1 : t < 8) (h2 : 0 ≤ l) (h3 : l < 281474976710656) :
    bits .or .u64 (bits .or .u64 18444492273895866368 (IntKind.u64.wrap (t * 281474976710656))) l = 18444492273895866368 + t * 281474976710656 + l := by
  have e0 : IntKind.u64.wrap (t * 281474976710656) = t * 281474976710656 := by rw [IntKind.wrap_u64]; omega
  rw [e0, u64_or 18444492273895866368 _ (by decide) (by decide) (by omega) (by omega)]
  have e1 : (18444492273895866368 : Int).toNat ||| (t * 281474976710656).toNat = 18444492273895866368 + (t * 281474976710656).toNat :=
    nat_join 51 18444492273895866368 _ (by decide) (by omega)
  rw [e1, u64_or _ l (by omega) (by omega) h2 (by omega)]
  have e2 : ((18444492273895866368 + (t * 281474976710656).toNat : Nat) : Int).toNat ||| l.toNat = (18444492273895866368 + (t * 281474976710656).toNat) + l.toNat :=
    nat_join 48 _ _ (by omega) (by omega)
  rw [e2]
  omega

/-! ### rows of bytes as numbers, the first byte lowest -/
def encN : List UInt8 → Nat
  | [] => 0
  | b :: r => b.toNat + 256 * encN r
def decN : Nat → Nat → List UInt8
  | 0, _ => []
  | k + 1, x => UInt8.ofNat (x % 256) :: decN k (x / 256)

theorem encN_lt (l : List UInt8) : encN l < 256 ^ l.length := by
  induction l with
  | nil => simp [encN]
  | cons b r ih =>
    have := b.toNat_lt
    simp only [encN, List.length_cons, Nat.pow_succ]
    omega
theorem encN_snoc (l : List UInt8) (b : UInt8) : encN (l ++ [b]) = encN l + b.toNat * 256 ^ l.length := by
  induction l with
  | nil => simp [encN]
  | cons c r ih =>
    simp only [List.cons_append, encN, ih, List.length_cons, Nat.pow_succ]
    rw [Nat.mul_add, ← Nat.mul_assoc, Nat.add_assoc]
    congr 2
    rw [Nat.mul_comm 256, Nat.mul_assoc, Nat.mul_comm 256]
theorem decN_encN (l : List UInt8) : decN l.length (encN l) = l := by
  induction l with
  | nil => rfl
  | cons b r ih =>
    have hb := b.toNat_lt
    simp only [List.length_cons, decN, encN]
    have e1 : (b.toNat + 256 * encN r) % 256 = b.toNat := by omega
    have e2 : (b.toNat + 256 * encN r) / 256 = encN r := by omega
    rw [e1, e2, ih]
    simp
/-! ### what the functions of package word answer -/
def smallB (i : Int) : Bool := decide (-140737488355328 ≤ i ∧ i ≤ 140737488355327)
def fltW (n : Int) : Int := if nanB n = true then 9221120237041090560 else n
def intW (i : Int) : Int := if smallB i = true then 18444773748872577024 + i % 281474976710656 else 0
def toInt (n : Int) : Int := if cls n = 2 then (if n % 281474976710656 < 140737488355328 then n % 281474976710656 else n % 281474976710656 - 281474976710656) else 0
def hdlW (h : Int) : Int := if h < 281474976710656 then 18445336698825998336 + h else 0
def toHdl (n : Int) : Int := if cls n = 6 then n % 281474976710656 else 0
def txtW (s : ByteArray) : Int := if s.size ≤ 5 then 18445055223849287680 + s.size * 1099511627776 + encN s.data.toList else 0
def toTxt (n : Int) : ByteArray := if cls n = 5 then ⟨(decN (n % 281474976710656 / 1099511627776).toNat (n % 1099511627776).toNat).toArray⟩ else ByteArray.empty
end Go.Proofs.YtgkakflnmpoadaaGreatDoor.W
/- Contracts of the small functions of package word and of its reference: what each returns, at every argument of its kind, with the world as it was. -/
namespace Go.Proofs.YtgkakflnmpoadaaGreatDoor.W
open Go.ChangeShapes Go.WideShapes Go.RowKit

theorem ret_bool {a b : Bool} (h : a = b) : Ending.returned (.bool a) = .returned (.bool b) := by rw [h]
theorem ret_int {k : IntKind} {a b : Int} (h : a = b) : Ending.returned (.int k a) = .returned (.int k b) := by rw [h]
theorem ret_pair {v v' u u' : Value} (h : v = v') (g : u = u') : Ending.returned (.tuple #[v, u]) = .returned (.tuple #[v', u']) := by rw [h, g]
theorem ret_ib {k : IntKind} {a a' : Int} {b b' : Bool} (h : a = a') (g : b = b') : Ending.returned (.tuple #[.int k a, .bool b]) = .returned (.tuple #[.int k a', .bool b']) := by rw [h, g]
theorem ret_sb {a a' : ByteArray} {b b' : Bool} (h : a = a') (g : b = b') : Ending.returned (.tuple #[.string a, .bool b]) = .returned (.tuple #[.string a', .bool b']) := by rw [h, g]
theorem int_eq {k : IntKind} {a b : Int} (h : a = b) : Value.int k a = Value.int k b := by rw [h]
theorem hid {p : Prop} (h : p) : Hid p := h

set_option maxHeartbeats 400000 in
theorem isNaN_c (n : Int) (h0 : 0 ≤ n) (h1 : n < 18446744073709551616) (w : World) :
    Calls Tryz.prog 52 #[.int .u64 n] w fun e w' => e = .returned (.bool (nanB n)) ∧ w' = w := by
  go_enter Tryz.func52, Tryz.ntmps52
  go_wp2
  go_ret
  exact ⟨ret_bool (by rw [nan_eq n h0 h1]; rfl), rfl⟩
set_option maxHeartbeats 400000 in
theorem isTagged_c (n : Int) (h0 : 0 ≤ n) (h1 : n < 18446744073709551616) (w : World) :
    Calls Tryz.prog 73 #[.int .u64 n] w fun e w' => e = .returned (.bool (decide (18444492273895866368 ≤ n))) ∧ w' = w := by
  go_enter Tryz.func73, Tryz.ntmps73
  go_wp2
  go_ret
  exact ⟨ret_bool (tagged_eq n h0 h1), rfl⟩
set_option maxHeartbeats 400000 in
theorem tagOf_c (n : Int) (h0 : 0 ≤ n) (h1 : n < 18446744073709551616) (w : World) :
    Calls Tryz.prog 74 #[.int .u64 n] w fun e w' => e = .returned (.int .u64 (n / 281474976710656 % 8)) ∧ w' = w := by
  go_enter Tryz.func74, Tryz.ntmps74
  go_wp2
  go_ret
  exact ⟨ret_int (tag_eq n h0 h1), rfl⟩
set_option maxHeartbeats 400000 in
theorem loadOf_c (n : Int) (h0 : 0 ≤ n) (h1 : n < 18446744073709551616) (w : World) :
    Calls Tryz.prog 76 #[.int .u64 n] w fun e w' => e = .returned (.int .u64 (n % 281474976710656)) ∧ w' = w := by
  go_enter Tryz.func76, Tryz.ntmps76
  go_wp2
  go_ret
  exact ⟨ret_int (load_eq n h0 h1), rfl⟩
set_option maxHeartbeats 400000 in
theorem join_c (t l : Int) (h0 : 0 ≤ t) (h1 : t < 8) (h2 : 0 ≤ l) (h3 : l < 281474976710656) (w : World) :
    Calls Tryz.prog 49 #[.int .u64 t, .int .u64 l] w fun e w' => e = .returned (.int .u64 (18444492273895866368 + t * 281474976710656 + l)) ∧ w' = w := by
  have hq := join_eq t l h0 h1 h2 h3
  have Hq : Hid (bits .or .u64 (bits .or .u64 18444492273895866368 (IntKind.u64.wrap (t * 281474976710656))) l = 18444492273895866368 + t * 281474976710656 + l) := hq
  clear hq h0 h1 h2 h3
  go_enter Tryz.func49, Tryz.ntmps49
  go_wp2
  go_ret
  exact ⟨ret_int Hq.out, rfl⟩
set_option maxHeartbeats 400000 in
theorem split_c (n : Int) (h0 : 0 ≤ n) (h1 : n < 18446744073709551616) (w : World) :
    Calls Tryz.prog 79 #[.int .u64 n] w fun e w' => e = .returned (.tuple #[.int .u64 (n / 1099511627776), .int .u64 (n % 1099511627776)]) ∧ w' = w := by
  go_enter Tryz.func79, Tryz.ntmps79
  go_wp2
  go_ret2
  exact ⟨ret_pair rfl (int_eq (room_eq n h0 h1)), rfl⟩
set_option maxHeartbeats 400000 in
theorem plain_c (n : Int) (w : World) :
    Calls Tryz.prog 75 #[.int .u64 n] w fun e w' => e = .returned (.int .i64 (plainCls n)) ∧ w' = w := by
  have P0 : Hid (n = 0 → plainCls n = 3) := by intro h; simp [plainCls, h]
  have P1 : Hid (n = 1 ∨ n = 2 → plainCls n = 4) := by intro h; rcases h with h | h <;> simp [plainCls, h]
  have P3 : Hid (n ≠ 0 → n ≠ 1 → n ≠ 2 → plainCls n = 7) := by intro a b c; simp [plainCls, a, b, c]
  go_enter Tryz.func75, Tryz.ntmps75
  go_wp2
  all_goals go_ret
  · exact ⟨ret_int (P0.out (by simp_all)).symm, rfl⟩
  · exact ⟨ret_int (P1.out (by simp_all)).symm, rfl⟩
  · exact ⟨ret_int (P1.out (by simp_all)).symm, rfl⟩
  · exact ⟨ret_int (P3.out (by simp_all) (by simp_all) (by simp_all)).symm, rfl⟩
end Go.Proofs.YtgkakflnmpoadaaGreatDoor.W
/- A map with strings for keys, as a list: what is put in and what is looked up. -/
namespace Go.Proofs.YtgkakflnmpoadaaGreatDoor.W
open Go.ChangeShapes Go.WideShapes Go.RowKit Go.ChangeMaps
set_option linter.unusedVariables false
/-- a map with strings for keys, in the order in which they came -/
def MapL (w : World) (b : Nat) (l : List (ByteArray × Value)) : Prop := ∃ es clock, w.heap[b]? = some (.map es clock) ∧ es.toList.map (fun e => (e.key, e.val)) = l.map (fun p => (Value.string p.1, p.2))
def findL : List (ByteArray × Value) → ByteArray → Option Value
  | [], _ => none
  | p :: l, s => if (s == p.1) = true then some p.2 else findL l s
theorem findNow_l (s : ByteArray) : ∀ (es : List MapEntry) (l : List (ByteArray × Value)) (i : Nat), es.map (fun e => (e.key, e.val)) = l.map (fun p => (Value.string p.1, p.2)) →
    (findL l s = none → Instr.findNow .string (.string s) es i = some none) ∧ (∀ v, findL l s = some v → ∃ j, Instr.findNow .string (.string s) es i = some (some (j, v)))
  | [], [], i, _ => ⟨fun _ => rfl, fun v h => by cases h⟩
  | [], _ :: _, i, h => by simp at h
  | _ :: _, [], i, h => by simp at h
  | e :: es, p :: l, i, h => by
    simp only [List.map_cons, List.cons.injEq, Prod.mk.injEq] at h
    obtain ⟨⟨hk, hv⟩, ht⟩ := h
    have ih := findNow_l s es l (i + 1) ht
    unfold findL Instr.findNow
    rw [hk]
    by_cases c : (s == p.1) = true
    · rw [if_pos c]
      refine ⟨fun h => (by cases h), fun v h => ⟨i, ?_⟩⟩
      cases h
      simp only [Instr.sameNow, c]
      rw [hv]
    · rw [if_neg c]
      have c' : (s == p.1) = false := by simpa using c
      simp only [Instr.sameNow, c']
      exact ih
theorem cell_keep {w w' : World} (hB : Below w.heap.size w w') {p : Addr} {v : Value} (h : w.cell? p = some v) : w'.cell? p = some v := by
  rw [hB.cell (p := p) ?_]
  · exact h
  · by_cases c : p.block < w.heap.size
    · exact c
    · simp [World.cell?, Array.getElem?_eq_none (Nat.not_lt.1 c)] at h
section
variable {P : Program} {w : World} {t k e : TypeId} {b : Nat} {l : List (ByteArray × Value)}
theorem MapL.below {w' : World} (h : MapL w b l) (hB : Below w.heap.size w w') : MapL w' b l := by
  obtain ⟨es, clock, h1, h2⟩ := h
  exact ⟨es, clock, (hB.block b (Array.getElem?_eq_some_iff.1 h1).1).trans h1, h2⟩
theorem MapL.lt (h : MapL w b l) : b < w.heap.size := by
  obtain ⟨es, clock, h1, h2⟩ := h
  exact (Array.getElem?_eq_some_iff.1 h1).1
theorem mapL_new (w : World) : MapL (w.alloc (.map #[] 0)) w.heap.size [] := ⟨#[], 0, (MapKept.heap_alloc w _).1, rfl⟩
theorem run_insert_l (ht : P.underlying t = some (.map k e)) (hk : P.underlying k = some .string) (h : MapL w b l) (s : ByteArray) (v : Value) (hn : findL l s = none) :
    ∃ w', (Instr.mapUpdate t (.map (some b)) (.string s) v).run P w = .ok () w' ∧ MapL w' b (l ++ [(s, v)]) ∧ w.grownBy w' (some b) := by
  obtain ⟨es, clock, hb, h2⟩ := h
  have h1 := (findNow_l s es.toList l 0 h2).1 hn
  have hc : (Instr.checkKey false 10000 k (.string s)).run P w = .ok () w := MapKept.run_checkKey (k := .string s) hk (by simp [MapKept.IsKey]) false 9999
  refine ⟨setBlock w b (.map (es.push ⟨.string s, v, clock⟩) (clock + 1)), ?_, ⟨_, _, heap_setBlock_same hb _, ?_⟩, ⟨rfl, rfl, rfl, by simp [setBlock], fun i _ hi => heap_setBlock_other hb _ (fun e => hi (by rw [e]))⟩⟩
  · simp [Instr.mapUpdate, run_underlying ht, MapKept.run_getObj_map hb, hc, MapKept.run_findKey hk h1, MapKept.run_setObj_map _ hb, Result.andThen, setBlock]
  · rw [Array.toList_push, List.map_append, List.map_append, h2]
    rfl
theorem run_lookup_l (ht : P.underlying t = some (.map k e)) (hk : P.underlying k = some .string) (h : MapL w b l) (s : ByteArray) (v : Value) (hv : findL l s = some v) :
    (Instr.lookup t (.map (some b)) (.string s) true).run P w = .ok (.tuple #[v, .bool true]) w := by
  obtain ⟨es, clock, hb, h2⟩ := h
  obtain ⟨j, h1⟩ := (findNow_l s es.toList l 0 h2).2 v hv
  have hc : (Instr.checkKey es.isEmpty 10000 k (.string s)).run P w = .ok () w := MapKept.run_checkKey (k := .string s) hk (by simp [MapKept.IsKey]) _ 9999
  simp [Instr.lookup, run_underlying ht, MapKept.run_getObj_map hb, hc, MapKept.run_findKey hk h1, Result.andThen]
/-- a pair is put in, at the operation -/
theorem wpList_insert_l {ops : Array Oper} {rest : List Oper} {o : Oper} {a : Act} {Q : Exit → Act → World → Prop}
    (hg : o.guard = none) (m x v : Operand) (t : TypeId) (hop : o.op = Op.insert t m x v) (k e : TypeId) (ht : P.underlying t = some (.map k e)) (hk : P.underlying k = some .string)
    (b : Nat) (hm : a.eval m = .map (some b)) (h : MapL w b l) (s : ByteArray) (val : Value) (hx : a.eval x = .string s) (hv : a.eval v = val) (hn : findL l s = none)
    (hK : ∀ w', MapL w' b (l ++ [(s, val)]) → w.grownBy w' (some b) → wpList P ops Q rest (a.put o.dst undef) w') :
    wpList P ops Q (o :: rest) a w := by
  refine wpList_plain hg fun K' hK' => ?_
  obtain ⟨w', hrun, r1, r2⟩ := run_insert_l ht hk h s val hn
  unfold Oper.wp
  simp [execOp, hop, hm, hx, hv, hrun, Result.andThen]
  exact hK' _ _ (hK w' r1 r2)
end
end Go.Proofs.YtgkakflnmpoadaaGreatDoor.W
/- Package ops: its map of functions. -/
namespace Go.Proofs.YtgkakflnmpoadaaGreatDoor.W
open Go.ChangeShapes Go.WideShapes Go.RowKit Go.ChangeMaps
set_option linter.unusedVariables false
theorem underBM : Tryz.prog.underlying 53 = some (.map 9 51) := by kernel_rfl
theorem underBS : Tryz.prog.underlying 9 = some .string := by kernel_rfl
/-- the built-in functions -/
def opsL (x5 x6 x7 x8 x9 : Nat) : List (ByteArray × Value) := [(⟨#[105, 110, 116]⟩, .agg #[.int .i64 1, .func (.func 25) #[] #[]]), (⟨#[102, 108, 111, 97, 116]⟩, .agg #[.int .i64 1, .func (.func 26) #[] #[]]), (⟨#[116, 101, 120, 116]⟩, .agg #[.int .i64 1, .func (.func 27) #[] #[]]), (⟨#[110, 117, 109]⟩, .agg #[.int .i64 1, .func (.func 28) #[] #[]]), (⟨#[108, 101, 110]⟩, .agg #[.int .i64 1, .func (.func 29) #[] #[]]), (⟨#[115, 117, 98]⟩, .agg #[.int .i64 3, .func (.func 30) #[] #[]]), (⟨#[98, 121, 116, 101]⟩, .agg #[.int .i64 2, .func (.func 31) #[] #[]]), (⟨#[99, 104, 114]⟩, .agg #[.int .i64 1, .func (.func 32) #[] #[]]), (⟨#[98, 105, 116, 115]⟩, .agg #[.int .i64 1, .func (.func 33) #[] #[]]), (⟨#[102, 114, 111, 109, 98, 105, 116, 115]⟩, .agg #[.int .i64 1, .func (.func 34) #[] #[]]), (⟨#[102, 54, 52]⟩, .agg #[.int .i64 1, .func (.func 66) #[] #[.pointer (some ⟨x5, 0, none⟩)]]), (⟨#[102, 51, 50]⟩, .agg #[.int .i64 1, .func (.func 66) #[] #[.pointer (some ⟨x6, 0, none⟩)]]), (⟨#[105, 49, 54]⟩, .agg #[.int .i64 1, .func (.func 66) #[] #[.pointer (some ⟨x7, 0, none⟩)]]), (⟨#[117, 56]⟩, .agg #[.int .i64 1, .func (.func 66) #[] #[.pointer (some ⟨x8, 0, none⟩)]]), (⟨#[114, 111, 119]⟩, .agg #[.int .i64 1, .func (.func 66) #[] #[.pointer (some ⟨x9, 0, none⟩)]]), (⟨#[118, 105, 101, 119]⟩, .agg #[.int .i64 4, .func (.func 36) #[] #[]]), (⟨#[108, 111, 97, 100]⟩, .agg #[.int .i64 2, .func (.func 37) #[] #[]]), (⟨#[115, 116, 111, 114, 101]⟩, .agg #[.int .i64 3, .func (.func 38) #[] #[]]), (⟨#[107, 105, 110, 100]⟩, .agg #[.int .i64 1, .func (.func 39) #[] #[]])]
theorem makes_c (k : Int) (W : World) : Calls Tryz.prog 35 #[.int .i64 k] W fun e w' => e = .returned (.func (.func 66) #[] #[.pointer (some ⟨W.heap.size, 0, none⟩)]) ∧ W.heap.size < w'.heap.size ∧ Below W.heap.size W w' := by
  have hB : Below W.heap.size W (W.alloc (.cells #[.int .i64 k] 3)) := (Below.refl _ W).alloc (Nat.le_refl _) _
  have hz : W.heap.size < (W.alloc (.cells #[.int .i64 k] 3)).heap.size := by rw [World.size_alloc]; exact Nat.lt_succ_self _
  go_enter Tryz.func35, Tryz.ntmps35
  go_wp2
  go_ret
  exact ⟨rfl, hz, hB⟩
set_option maxRecDepth 100000 in
set_option maxHeartbeats 2000000 in
theorem builtins_c (W : World) : Calls Tryz.prog 12 #[] W fun e w' => ∃ b x5 x6 x7 x8 x9, e = .returned (.map (some b)) ∧ MapL w' b (opsL x5 x6 x7 x8 x9) ∧ Below W.heap.size W w' := by
  have hmm := @run_makeMap Tryz.prog
  have HL := mapL_new W
  have HB : Below W.heap.size W (W.alloc (.map #[] 0)) := (Below.refl _ W).alloc (Nat.le_refl _) _
  go_enter Tryz.func12, Tryz.ntmps12
  go_wp2_with (first | (go_at_call 35; (with_reducible refine (makes_c _ _).mono ?_); rintro e w1 ⟨rfl, hz, hB⟩; replace HL := HL.below hB; replace HB := HB.trans (hB.mono HB.size); (generalize World.heap _ = hx at hz; clear hz hB)) | (refine wpList_insert_l rfl _ _ _ _ rfl _ _ underBM underBS _ rfl HL _ _ rfl rfl (by kernel_rfl) ?_; clear HL; intro w1 HL hg; replace HB := HB.grown hg HB.size (fun j hj => by cases hj; exact Nat.le_refl _); clear hg))
  go_ret
  exact ⟨_, _, _, _, _, _, rfl, HL, HB⟩
end Go.Proofs.YtgkakflnmpoadaaGreatDoor.W
/- Package ops: of a kind. -/
namespace Go.Proofs.YtgkakflnmpoadaaGreatDoor.W
open Go.ChangeShapes Go.WideShapes Go.RowKit
set_option linter.unusedVariables false
theorem eq_not (a b : Int) : (a == b) = !(a != b) := by unfold bne; cases (a == b) <;> rfl
set_option maxRecDepth 100000 in
theorem are1_c (W : World) (hb vb pb : Nat) (n : Nat) (vw vr : Value) (k kd0 : Int) (hn : 0 < n) (hm : n ≤ 1000) (hp0 : W.cell? ⟨pb, 0, none⟩ = some (.int .i64 0)) (hk0 : W.cell? ⟨vb, 0, none⟩ = some (.int .i64 kd0)) :
    Calls Tryz.prog 58 #[.agg #[.pointer (some ⟨hb, 0, none⟩), vw, .slice (some ⟨vb, 0, none⟩) n n, vr], .int .i64 k, .slice (some ⟨pb, 0, none⟩) 1 1] W fun e w' => e = .returned (.bool ((kd0 == k))) ∧ Below W.heap.size W w' := by
  have hB : Below W.heap.size W (W.alloc (.cells #[.pointer (some ⟨hb, 0, none⟩), vw, .slice (some ⟨vb, 0, none⟩) n n, vr] 80)) := (Below.refl _ W).alloc (Nat.le_refl _) _
  replace hp0 := cell_keep hB hp0
  replace hk0 := cell_keep hB hk0
  have hn0 : (0 : Int) < (n : Int) := by omega
  have e0 := World.cell?_alloc_new W #[.pointer (some ⟨hb, 0, none⟩), vw, .slice (some ⟨vb, 0, none⟩) n n, vr] 80
  rw [eq_not kd0 k]
  go_enter Tryz.func58, Tryz.ntmps58
  go_upto_region 2 with fail
  go_wp2
  refine wp_loop_rounds 2 ?_
  cases hq0 : (kd0 != k)
  rotate_left
  · rw [rounds_succ]
    go_wp2
    go_ret
    exact ⟨by rw [hq0]; rfl, hB⟩
  rw [rounds_succ]
  go_wp2
  rw [rounds_succ]
  go_wp2
  go_ret
  exact ⟨by rw [hq0]; rfl, hB⟩
set_option maxRecDepth 100000 in
theorem are2_c (W : World) (hb vb pb : Nat) (n : Nat) (vw vr : Value) (k kd0 kd1 : Int) (hn : 1 < n) (hm : n ≤ 1000) (hp0 : W.cell? ⟨pb, 0, none⟩ = some (.int .i64 0)) (hp1 : W.cell? ⟨pb, 1, none⟩ = some (.int .i64 1)) (hk0 : W.cell? ⟨vb, 0, none⟩ = some (.int .i64 kd0)) (hk1 : W.cell? ⟨vb, 5, none⟩ = some (.int .i64 kd1)) :
    Calls Tryz.prog 58 #[.agg #[.pointer (some ⟨hb, 0, none⟩), vw, .slice (some ⟨vb, 0, none⟩) n n, vr], .int .i64 k, .slice (some ⟨pb, 0, none⟩) 2 2] W fun e w' => e = .returned (.bool ((kd0 == k) && (kd1 == k))) ∧ Below W.heap.size W w' := by
  have hB : Below W.heap.size W (W.alloc (.cells #[.pointer (some ⟨hb, 0, none⟩), vw, .slice (some ⟨vb, 0, none⟩) n n, vr] 80)) := (Below.refl _ W).alloc (Nat.le_refl _) _
  replace hp0 := cell_keep hB hp0
  replace hk0 := cell_keep hB hk0
  have hn0 : (0 : Int) < (n : Int) := by omega
  replace hp1 := cell_keep hB hp1
  replace hk1 := cell_keep hB hk1
  have hn1 : (1 : Int) < (n : Int) := by omega
  have e0 := World.cell?_alloc_new W #[.pointer (some ⟨hb, 0, none⟩), vw, .slice (some ⟨vb, 0, none⟩) n n, vr] 80
  rw [eq_not kd0 k, eq_not kd1 k]
  go_enter Tryz.func58, Tryz.ntmps58
  go_upto_region 2 with fail
  go_wp2
  refine wp_loop_rounds 3 ?_
  cases hq0 : (kd0 != k)
  rotate_left
  · rw [rounds_succ]
    go_wp2
    go_ret
    exact ⟨by rw [hq0]; rfl, hB⟩
  rw [rounds_succ]
  go_wp2
  cases hq1 : (kd1 != k)
  rotate_left
  · rw [rounds_succ]
    go_wp2
    go_ret
    exact ⟨by rw [hq0, hq1]; rfl, hB⟩
  rw [rounds_succ]
  go_wp2
  rw [rounds_succ]
  go_wp2
  go_ret
  exact ⟨by rw [hq0, hq1]; rfl, hB⟩
end Go.Proofs.YtgkakflnmpoadaaGreatDoor.W
/- Plain facts on words of IEEE 754: what a word reads as, that what is written is no NaN, how two words compare. No Go in sight. -/
namespace Go.Proofs.YtgkakflnmpoadaaGreatDoor.W.Nu
open Ieee

/-- is a pattern a NaN? -/
def nanB (n : Int) : Bool := decide (9218868437227405312 < n % 9223372036854775808)
/-- a pattern, with all NaNs made one -/
def fltW (n : Int) : Int := if nanB n = true then 9221120237041090560 else n

theorem D_sign : Ieee.double.signWeight = 9223372036854775808 := by decide
theorem D_bin : Ieee.double.binade = 4503599627370496 := by decide
theorem D_inf : Ieee.double.infRung = 9218868437227405312 := by decide
theorem D_least : Ieee.double.leastPlace = -1074 := by decide
theorem word_eq (s : Bool) (r : Nat) : Ieee.double.word s r = (if s then 9223372036854775808 else 0) + r := by
  unfold Format.word
  rw [D_sign]
  cases s <;> simp

theorem read_eq (x : Nat) : Ieee.double.read x =
    if x % 9223372036854775808 < 4503599627370496 then .number (x / 9223372036854775808 % 2 == 1) (x % 9223372036854775808) (-1074)
    else if x % 9223372036854775808 < 9218868437227405312 then
      .number (x / 9223372036854775808 % 2 == 1) (4503599627370496 + x % 9223372036854775808 % 4503599627370496) (-1074 + (x % 9223372036854775808 / 4503599627370496 - 1 : Nat))
    else if x % 9223372036854775808 = 9218868437227405312 then .infinity (x / 9223372036854775808 % 2 == 1)
    else .nan (x / 9223372036854775808 % 2 == 1) (x % 9223372036854775808 - 9218868437227405312) := by
  unfold Format.read
  simp only [D_sign, D_bin, D_inf, D_least]

theorem nan_read (x : Nat) : (Ieee.double.read x).isNaN = nanB x := by
  rw [read_eq, nanB]
  have e : ((x : Int) % 9223372036854775808) = ((x % 9223372036854775808 : Nat) : Int) := by omega
  rw [e]
  split
  · rename_i h; simp [Datum.isNaN]; omega
  · split
    · rename_i h; simp [Datum.isNaN]; omega
    · split
      · rename_i h; simp [Datum.isNaN]; omega
      · rename_i h1 h2 h3; simp [Datum.isNaN]; omega

theorem order_self (d : Datum) : (d.order d != some .eq) = d.isNaN := by
  cases d with
  | number s m i => simp [Datum.order, Datum.isNaN, compare, compareOfLessAndEq]
  | infinity s => cases s <;> rfl
  | nan s t => rfl

theorem isNaN_eq (x : Nat) : (Ieee.double.order x x != some .eq) = nanB x := by
  rw [← nan_read]; exact order_self _

/-- a word whose rung is not above infinity's is no NaN -/
theorem word_plain (s : Bool) (r : Nat) (h : r ≤ 9218868437227405312) : nanB (Ieee.double.word s r : Nat) = false := by
  rw [word_eq, nanB]
  cases s <;> simp <;> omega
theorem nearest_plain (s : Bool) (m : Nat) (p : Int) : nanB (Ieee.double.nearest s m p : Nat) = false := by
  unfold Format.nearest
  split
  · exact word_plain _ _ (by omega)
  · rw [D_inf]; exact word_plain _ _ (Nat.min_le_right ..)
theorem write_plain (d : Datum) (h : d.isNaN = false) : nanB (Ieee.double.write d : Nat) = false := by
  cases d with
  | number s m p => exact nearest_plain s m p
  | infinity s => exact word_plain s _ (by rw [D_inf]; omega)
  | nan s t => exact absurd h (by simp [Datum.isNaN])
theorem sum_plain {a b d : Datum} (h : a.sum b = some d) : d.isNaN = false := by
  cases a <;> cases b <;> simp [Datum.sum] at h <;> (try (rcases h with ⟨_, h⟩)) <;> (try subst h) <;> rfl
theorem product_plain {a b d : Datum} (h : a.product b = some d) : d.isNaN = false := by
  cases a <;> cases b <;> simp [Datum.product] at h <;> (try (rcases h with ⟨_, h⟩)) <;> (try subst h) <;> rfl
theorem quotient_plain {k : Nat} {a b d : Datum} (h : a.quotient k b = some d) : d.isNaN = false := by
  cases a with
  | nan s t => simp [Datum.quotient] at h
  | infinity s => cases b <;> simp [Datum.quotient] at h <;> subst h <;> rfl
  | number s m i =>
    cases b with
    | nan t u => simp [Datum.quotient] at h
    | infinity t => simp [Datum.quotient] at h; subst h; rfl
    | number t n j =>
      simp only [Datum.quotient] at h
      split at h
      · split at h
        · cases h
        · cases h; rfl
      · cases h; rfl

theorem floatBits_plain {op : BinOp} {x y r : Nat} (h : floatBits op .f64 x y = some r) : nanB (r : Int) = false := by
  unfold floatBits at h
  have go : ∀ o : Option Datum, (∀ d, o = some d → d.isNaN = false) → o.map Ieee.double.write = some r → nanB (r : Int) = false := by
    intro o ho hm
    cases o with
    | none => cases hm
    | some d => cases hm; exact write_plain d (ho d rfl)
  split at h
  · exact go _ (fun d => sum_plain) h
  · exact go _ (fun d => sum_plain) h
  · exact go _ (fun d => product_plain) h
  · exact go _ (fun d => quotient_plain) h
  · cases h
/-- a NaN that the tape names is a NaN -/
theorem nanBits_nan (x y t : Nat) : nanB ((Question.nanBits .f64 x y).cut t : Nat) = true := by
  show decide (9218868437227405312 < (((t % 2) * 9223372036854775808 + 9218868437227405312 + 1 + (t / 2) % 4503599627370495 : Nat) : Int) % 9223372036854775808) = true
  rw [decide_eq_true_eq]
  have h1 : t / 2 % 4503599627370495 < 4503599627370495 := Nat.mod_lt _ (by omega)
  have h2 : t % 2 = 0 ∨ t % 2 = 1 := by omega
  generalize t / 2 % 4503599627370495 = q at *
  generalize t % 2 = s at *
  rcases h2 with rfl | rfl <;> omega
/-- what an operation on two patterns answers -/
def opI (op : BinOp) (a b : Int) : Int := match floatBits op .f64 a.toNat b.toNat with | some r => (r : Int) | none => 9221120237041090560
/-! ### the walk's laws -/
/-- what '+', '-', '*', '/' on doubles give: the bits, or a NaN that the tape names -/
def fres (op : BinOp) (x y : Nat) (w : World) : Nat :=
  match floatBits op .f64 x y with | some r => r | none => (Question.nanBits .f64 x y).cut (w.tape w.drawn (.nanBits .f64 x y))
def fdraw (op : BinOp) (x y : Nat) : Nat := match floatBits op .f64 x y with | some _ => 0 | none => 1
theorem fltW_fres (op : BinOp) (a b : Int) (w : World) : fltW (fres op a.toNat b.toNat w : Nat) = opI op a b := by
  unfold fres opI
  split
  · rename_i r h; rw [fltW, floatBits_plain h]; simp
  · rw [fltW, nanBits_nan]; simp

theorem run_fop (P : Program) (op : BinOp) (hop : op = .add ∨ op = .sub ∨ op = .mul ∨ op = .quo) (t : TypeId) (x y : Nat) (w : World) :
    (binOp op t (.float .f64 x) (.float .f64 y)).run P w = .ok (.float .f64 (fres op x y w)) (w.drewN (fdraw op x y)) := by
  cases h : floatBits op .f64 x y with
  | some r =>
    rw [run_float_arith w op t .f64 x y r h]
    simp [fres, fdraw, h, World.drewN_zero]
  | none =>
    have e1 : fres op x y w = (Question.nanBits .f64 x y).cut (w.tape w.drawn (.nanBits .f64 x y)) := by simp [fres, h]
    have e2 : fdraw op x y = 1 := by simp [fdraw, h]
    rw [e1, e2]
    rcases hop with rfl | rfl | rfl | rfl <;> simp only [floatBits] at h <;> simp [binOp, Op.floatArith, h, World.drew_is_drewN, Question.forced]

end Go.Proofs.YtgkakflnmpoadaaGreatDoor.W.Nu
/- Contracts of the small functions beneath package soft and its reference: doubles by their patterns, and back. -/
namespace Go.Proofs.YtgkakflnmpoadaaGreatDoor.W.Nu
open Go.ChangeShapes Go.WideShapes Go.RowKit

theorem ret_bool {a b : Bool} (h : a = b) : Ending.returned (.bool a) = .returned (.bool b) := by rw [h]
theorem ret_int {k : IntKind} {a b : Int} (h : a = b) : Ending.returned (.int k a) = .returned (.int k b) := by rw [h]
theorem ret_ii {k l : IntKind} {a a' b b' : Int} (h : a = a') (g : b = b') : Ending.returned (.tuple #[.int k a, .int l b]) = .returned (.tuple #[.int k a', .int l b']) := by rw [h, g]
theorem hid {p : Prop} (h : p) : Hid p := h

theorem run_frombits64 (n : Int) (w : World) : (callFunc 172 #[.int .u64 n]).run Tryz.prog w = .ok (.value (.float .f64 n.toNat)) w := by
  rw [run_callFunc_extern Tryz.func172 (e := Extern.MathFloatBits.float64frombits) (by kernel_rfl) (by kernel_rfl) (by kernel_rfl) (by kernel_rfl)]
  rfl
theorem run_bits64 (x : Nat) (w : World) : (callFunc 174 #[.float .f64 x]).run Tryz.prog w = .ok (.value (.int .u64 (x : Nat))) w := by
  rw [run_callFunc_extern Tryz.func174 (e := Extern.MathFloatBits.float64bits) (by kernel_rfl) (by kernel_rfl) (by kernel_rfl) (by kernel_rfl)]
  rfl
set_option maxHeartbeats 400000 in
theorem double_c (n : Int) (w : World) :
    Calls Tryz.prog 103 #[.int .u64 n] w fun e w' => e = .returned (.float .f64 n.toNat) ∧ w' = w := by
  have hx := run_frombits64 n
  go_enter Tryz.func103, Tryz.ntmps103
  go_wp2
  go_ret
  exact ⟨rfl, rfl⟩
set_option maxHeartbeats 400000 in
theorem isNaN_f (x : Nat) (w : World) :
    Calls Tryz.prog 173 #[.float .f64 x] w fun e w' => e = .returned (.bool (nanB (x : Nat))) ∧ w' = w := by
  go_enter Tryz.func173, Tryz.ntmps173
  go_wp2
  go_ret
  exact ⟨ret_bool (isNaN_eq x), rfl⟩
set_option maxHeartbeats 400000 in
theorem pattern_c (x : Nat) (w : World) :
    Calls Tryz.prog 104 #[.float .f64 x] w fun e w' => e = .returned (.int .u64 (fltW (x : Nat))) ∧ w' = w := by
  have hx := run_bits64 x
  cases hn : nanB (x : Nat) with
  | true =>
    go_enter Tryz.func104, Tryz.ntmps104
    go_wp2_with (go_at_call 173; refine (isNaN_f _ _).mono ?_; rintro e w' ⟨rfl, rfl⟩)
    go_ret
    exact ⟨ret_int (by simp [fltW, hn]), rfl⟩
  | false =>
    go_enter Tryz.func104, Tryz.ntmps104
    go_wp2_with (go_at_call 173; refine (isNaN_f _ _).mono ?_; rintro e w' ⟨rfl, rfl⟩)
    go_ret
    exact ⟨ret_int (by simp [fltW, hn]), rfl⟩
end Go.Proofs.YtgkakflnmpoadaaGreatDoor.W.Nu
/- Contracts of package soft and of its reference: sums, differences, products, quotients, signs, floors, orders; one plain function says what both answer. -/
namespace Go.Proofs.YtgkakflnmpoadaaGreatDoor.W.Nu
open Go.ChangeShapes Go.WideShapes Go.RowKit

/-- what FromInt answers -/
def fromI (i : Int) : Int := (floatOfInt .f64 i : Nat)
theorem fromI_plain (i : Int) : fltW (floatOfInt .f64 i : Nat) = fromI i := by
  have : nanB (floatOfInt .f64 i : Nat) = false := nearest_plain _ _ _
  simp [fltW, this, fromI]
theorem run_same (src dst : TypeId) (x : Nat) (hs : (Tryz.prog.underlying src).isSome = true) (hd : Tryz.prog.underlying dst = some (.float .f64)) (w : World) :
    (convert src dst (.float .f64 x)).run Tryz.prog w = .ok (.float .f64 x) w := run_convert_float_float w src dst .f64 .f64 x x hs hd (by simp [floatToFloatBits])
set_option maxHeartbeats 800000 in
theorem softAdd_c (a b : Int) (w : World) :
    Calls Tryz.prog 195 #[.int .u64 a, .int .u64 b] w fun e w' => e = .returned (.int .u64 (opI .add a b)) ∧ ∃ m, w' = w.drewN m := by
  have hop := run_fop Tryz.prog .add (Or.inl rfl) 149 a.toNat b.toNat
  have hcv := fun x w => run_same 149 149 x (by rw [Tryz.underlying149]; rfl) Tryz.underlying149 w
  go_enter Tryz.func195, Tryz.ntmps195
  go_wp2_with (first | (go_at_call 103; refine (double_c _ _).mono ?_; rintro e w' ⟨rfl, rfl⟩) | (go_at_call 104; refine (pattern_c _ _).mono ?_; rintro e w' ⟨rfl, rfl⟩))
  go_ret
  exact ⟨ret_int (fltW_fres ..), _, rfl⟩
set_option maxHeartbeats 800000 in
theorem softFromInt_c (i : Int) (w : World) :
    Calls Tryz.prog 57 #[.int .i64 i] w fun e w' => e = .returned (.int .u64 (fromI i)) ∧ w' = w := by
  go_enter Tryz.func57, Tryz.ntmps57
  go_wp2_with (go_at_call 104; refine (pattern_c _ _).mono ?_; rintro e w' ⟨rfl, rfl⟩)
  go_ret
  exact ⟨ret_int (fromI_plain i), rfl⟩
end Go.Proofs.YtgkakflnmpoadaaGreatDoor.W.Nu
/- Worlds that have only grown: so many draws further, with new blocks behind the old ones. -/
namespace Go.Proofs.YtgkakflnmpoadaaGreatDoor.W.Nu
open Go.ChangeShapes Go.WideShapes Go.RowKit

/-- w' is w, some draws further, with new blocks behind the old ones -/
def Gr (w w' : World) : Prop := ∃ q os, w' = Sort.grow (w.drewN q) os
theorem Gr.refl (w : World) : Gr w w := ⟨0, #[], by rw [Sort.grow_empty, World.drewN_zero]⟩
theorem Gr.trans {a b c : World} (h : Gr a b) (k : Gr b c) : Gr a c := by
  obtain ⟨q, os, rfl⟩ := h
  obtain ⟨q', os', rfl⟩ := k
  refine ⟨q + q', os ++ os', ?_⟩
  show Sort.grow (Sort.grow ((a.drewN q).drewN q') os) os' = _
  rw [Sort.grow_grow, World.drewN_drewN]
theorem Gr.alloc {a b : World} (h : Gr a b) (o : Obj) : Gr a (b.alloc o) := h.trans ⟨0, #[o], by rw [Sort.alloc_eq_grow, World.drewN_zero]⟩
theorem Gr.draw {a b : World} (h : Gr a b) (n : Nat) : Gr a (b.drewN n) := h.trans ⟨n, #[], by rw [Sort.grow_empty]⟩
theorem Gr.drew {a b : World} (h : Gr a b) : Gr a b.drew := h.draw 1
theorem Gr.of_same {a b : World} (m : Nat) (h : b = a.drewN m) : Gr a b := ⟨m, #[], by rw [h, Sort.grow_empty]⟩
theorem Gr.store {a b : World} (h : Gr a b) {p : Addr} (hp : a.heap.size ≤ p.block) (v : Value) : Gr a (b.setCell p v) := by
  obtain ⟨q, os, rfl⟩ := h
  have e := fun f => Sort.modify_append_right a.heap os p.block f (by exact hp)
  exact ⟨q, _, by unfold World.setCell Sort.grow; exact congrArg (fun h => ({ a.drewN q with heap := h } : World)) (e _)⟩
theorem Gr.size {a b : World} (h : Gr a b) : a.heap.size ≤ b.heap.size := by
  obtain ⟨q, os, rfl⟩ := h
  rw [Sort.size_grow]
  exact Nat.le_add_right _ _
theorem Gr.old {a b : World} (h : Gr a b) {k : Nat} (hk : k < a.heap.size) : b.heap[k]? = a.heap[k]? := by
  obtain ⟨q, os, rfl⟩ := h
  exact Sort.heap_grow_old _ _ (by exact hk)
theorem Gr.below {a b : World} (h : Gr a b) : Below a.heap.size a b := by
  refine ⟨?_, ?_, ?_, h.size, fun k hk => h.old hk⟩ <;> (obtain ⟨q, os, rfl⟩ := h; rfl)
theorem Gr.frozen {a b : World} (h : Gr a b) {n i : Nat} (hn : n < a.heap.size) : b.frozen? ⟨n, i, none⟩ = a.frozen? ⟨n, i, none⟩ := by
  simp only [World.frozen?, h.old hn]
theorem cell_lt {w : World} {n i : Nat} {v : Value} (h : w.cell? ⟨n, i, none⟩ = some v) : n < w.heap.size := by
  false_or_by_contra
  rename_i g
  have e : w.heap[n]? = none := Array.getElem?_eq_none (by omega)
  simp [World.cell?, e] at h
theorem Gr.cells {a b : World} (h : Gr a b) {n : Nat} {c : Array Value} (f : ∀ i, a.cell? ⟨n, i, none⟩ = c[i]?) (hc : 0 < c.size) : ∀ i, b.cell? ⟨n, i, none⟩ = c[i]? := by
  have hn : n < a.heap.size := cell_lt (i := 0) (v := c[0]) (by rw [f 0]; simp [hc])
  intro i
  rw [← f i]
  exact World.cell?_of_block (w := a) (h.old hn)
theorem Gr.of_alloc {a b : World} {o : Obj} (h : Gr (a.alloc o) b) : Gr a b := ((Gr.refl a).alloc o).trans h
theorem Gr.of_drew {a b : World} (h : Gr a.drew b) : Gr a b := (Gr.refl a).drew.trans h
theorem Gr.new {a b : World} {c : Array Value} {t : TypeId} (h : Gr (a.alloc (.cells c t)) b) (hc : 0 < c.size) : ∀ i, b.cell? ⟨a.heap.size, i, none⟩ = c[i]? :=
  h.cells (fun i => World.cell?_alloc_at c t _ i rfl) hc
theorem Gr.thaw {a b : World} (h : Gr a b) {n : Nat} {c : Array Value} (f : ∀ i, a.cell? ⟨n, i, none⟩ = c[i]?) (hc : 0 < c.size) (z : ∀ i, a.frozen? ⟨n, i, none⟩ = false) : ∀ i, b.frozen? ⟨n, i, none⟩ = false := by
  have hn : n < a.heap.size := cell_lt (i := 0) (v := c[0]) (by rw [f 0]; simp [hc])
  intro i
  rw [h.frozen hn]
  exact z i
theorem cells_alloc {w : World} {n : Nat} {c : Array Value} (o : Obj) (f : ∀ i, w.cell? ⟨n, i, none⟩ = c[i]?) (hc : 0 < c.size) : ∀ i, (w.alloc o).cell? ⟨n, i, none⟩ = c[i]? := ((Gr.refl w).alloc o).cells f hc
theorem size_alloc (w : World) (o : Obj) : (w.alloc o).heap.size = w.heap.size + 1 := by rw [Sort.alloc_eq_grow, Sort.size_grow]; rfl
theorem frozen_new (w : World) (c : Array Value) (t : TypeId) (n i : Nat) (hn : n = w.heap.size) : (w.alloc (.cells c t)).frozen? ⟨n, i, none⟩ = false := by
  rw [frozen?_alloc_cells, World.frozen?]
  have : w.heap[n]? = none := Array.getElem?_eq_none (by omega)
  rw [this]
/-- a new block -/
theorem Gr.one {w w' : World} {A : Array Value} {s : TypeId} (h : Gr (w.alloc (.cells A s)) w') (hA : 0 < A.size) :
    (∀ i, w'.cell? ⟨w.heap.size, i, none⟩ = A[i]?) ∧ (∀ i, w'.frozen? ⟨w.heap.size, i, none⟩ = false) ∧ Gr w w' :=
  ⟨h.new hA, h.thaw (fun i => World.cell?_alloc_at A s _ i rfl) hA (fun i => frozen_new w A s _ i rfl), h.of_alloc⟩
/-- two new blocks -/
theorem Gr.two {w w' : World} {A B : Array Value} {s t : TypeId} (h : Gr ((w.alloc (.cells A s)).alloc (.cells B t)) w') (hA : 0 < A.size) (hB : 0 < B.size) :
    (∀ i, w'.cell? ⟨w.heap.size, i, none⟩ = A[i]?) ∧ (∀ i, w'.cell? ⟨w.heap.size + 1, i, none⟩ = B[i]?) ∧ Gr w w' := by
  refine ⟨h.cells (cells_alloc _ (fun i => World.cell?_alloc_at A s _ i rfl) hA) hA, ?_, h.of_alloc.of_alloc⟩
  have e := h.new hB
  rwa [size_alloc] at e
/-- two new blocks, the second one to be written -/
theorem Gr.pair {w w' : World} {A R : Array Value} {s r : TypeId} (h : Gr ((w.alloc (.cells A s)).alloc (.cells R r)) w') (hA : 0 < A.size) (hR : 0 < R.size) :
    (∀ i, w'.cell? ⟨w.heap.size, i, none⟩ = A[i]?) ∧ (∀ i, w'.cell? ⟨w.heap.size + 1, i, none⟩ = R[i]?) ∧ (∀ i, w'.frozen? ⟨w.heap.size + 1, i, none⟩ = false) ∧ Gr w w' := by
  obtain ⟨f1, f2, f3⟩ := h.two hA hR
  refine ⟨f1, f2, h.thaw (fun i => World.cell?_alloc_at R r (w.heap.size + 1) i (by rw [size_alloc])) hR (fun i => frozen_new _ R r _ i (by rw [size_alloc])), f3⟩
/-- three new blocks -/
theorem Gr.three {w w' : World} {A B R : Array Value} {s t r : TypeId} (h : Gr (((w.alloc (.cells A s)).alloc (.cells B t)).alloc (.cells R r)) w') (hA : 0 < A.size) (hB : 0 < B.size) (hR : 0 < R.size) :
    (∀ i, w'.cell? ⟨w.heap.size, i, none⟩ = A[i]?) ∧ (∀ i, w'.cell? ⟨w.heap.size + 1, i, none⟩ = B[i]?) ∧ (∀ i, w'.cell? ⟨w.heap.size + 1 + 1, i, none⟩ = R[i]?) ∧ (∀ i, w'.frozen? ⟨w.heap.size + 1 + 1, i, none⟩ = false) ∧ Gr w w' := by
  obtain ⟨f1, f2, f3⟩ := h.of_alloc.two hA hB
  have e := h.new hR
  have z : ∀ i, (((w.alloc (.cells A s)).alloc (.cells B t)).alloc (.cells R r)).frozen? ⟨w.heap.size + 1 + 1, i, none⟩ = false := by
    intro i
    rw [frozen?_alloc_cells, World.frozen?]
    have : ((w.alloc (.cells A s)).alloc (.cells B t)).heap[w.heap.size + 1 + 1]? = none := Array.getElem?_eq_none (by rw [size_alloc, size_alloc]; omega)
    rw [this]
  have c := fun i => World.cell?_alloc_at (w := (w.alloc (.cells A s)).alloc (.cells B t)) R r (w.heap.size + 1 + 1) i (by rw [size_alloc, size_alloc])
  rw [size_alloc, size_alloc] at e
  exact ⟨f1, f2, e, h.thaw c hR z, f3⟩
end Go.Proofs.YtgkakflnmpoadaaGreatDoor.W.Nu
/- Contracts of package num's and its reference's small functions: what they hand back, and that memory has only grown. -/
namespace Go.Proofs.YtgkakflnmpoadaaGreatDoor.W.Nu
open Go.ChangeShapes Go.WideShapes Go.RowKit

/-- a number as a double's pattern -/
def bitsI (a : Bool) (i u : Int) : Int := if a = true then fromI i else u
set_option maxHeartbeats 400000 in
theorem numWhole_c (i : Int) (w : World) :
    Calls Tryz.prog 197 #[.int .i64 i] w fun e w' => e = .returned (.agg #[.bool true, .int .i64 i, .int .u64 0]) ∧ Gr w w' := by
  go_enter Tryz.func197, Tryz.ntmps197
  go_wp2
  exact bodyPost_ret (v := .agg #[.bool true, .int .i64 i, .int .u64 0]) (by simp [results, Tryz.results197, go_sem]) rfl ⟨rfl, (Gr.refl _).alloc _⟩
set_option maxHeartbeats 400000 in
theorem numDouble_c (u : Int) (w : World) :
    Calls Tryz.prog 130 #[.int .u64 u] w fun e w' => e = .returned (.agg #[.bool false, .int .i64 0, .int .u64 u]) ∧ Gr w w' := by
  go_enter Tryz.func130, Tryz.ntmps130
  go_wp2
  exact bodyPost_ret (v := .agg #[.bool false, .int .i64 0, .int .u64 u]) (by simp [results, Tryz.results130, go_sem]) rfl ⟨rfl, (Gr.refl _).alloc _⟩
set_option maxHeartbeats 400000 in
theorem refused_c (n : Int) (w : World) :
    Calls Tryz.prog 196 #[.int .i64 n] w fun e w' => e = .returned (.tuple #[.agg #[.bool false, .int .i64 0, .int .u64 0], .int .i64 n]) ∧ Gr w w' := by
  go_enter Tryz.func196, Tryz.ntmps196
  go_wp2
  exact bodyPost_ret (v := .tuple #[.agg #[.bool false, .int .i64 0, .int .u64 0], .int .i64 n]) (by simp [results, Tryz.results196, go_sem]) rfl ⟨rfl, (Gr.refl _).alloc _⟩
/-- the kinds of two operands -/
def kindI (a b : Bool) : Int := if a = true then (if b = true then 0 else 1) else if b = true then 2 else 3
set_option maxHeartbeats 400000 in
theorem kinds_c (a b : Bool) (i u j v : Int) (w : World) :
    Calls Tryz.prog 128 #[.agg #[.bool a, .int .i64 i, .int .u64 u], .agg #[.bool b, .int .i64 j, .int .u64 v]] w fun e w' => e = .returned (.int .i64 (kindI a b)) ∧ Gr w w' := by
  cases a <;> cases b
  all_goals
    go_enter Tryz.func128, Tryz.ntmps128
    go_wp2
    go_ret
    exact ⟨rfl, ((Gr.refl _).alloc _).alloc _⟩
set_option maxHeartbeats 400000 in
theorem bitsOf_c (a : Bool) (i u : Int) (w : World) :
    Calls Tryz.prog 132 #[.agg #[.bool a, .int .i64 i, .int .u64 u]] w fun e w' => e = .returned (.int .u64 (bitsI a i u)) ∧ Gr w w' := by
  cases a
  all_goals
    go_enter Tryz.func132, Tryz.ntmps132
    go_wp2_with (go_at_call 57; refine (softFromInt_c _ _).mono ?_; rintro e w' ⟨rfl, rfl⟩)
    go_ret
    exact ⟨rfl, (Gr.refl _).alloc _⟩
end Go.Proofs.YtgkakflnmpoadaaGreatDoor.W.Nu
/- Plain facts on whole numbers of 64 bits: what fits, wrapped sums and products, quotients rounded down. No Go in sight but a result's parts. -/
namespace Go.Proofs.YtgkakflnmpoadaaGreatDoor.W.Nu

/-- a result's parts: is it whole, the whole number, the pattern, the error -/
structure Res where
  w : Bool
  i : Int
  u : Int
  e : Int
def okW (n : Int) : Res := ⟨true, n, 0, 0⟩
def okD (u : Int) : Res := ⟨false, 0, u, 0⟩
def bad (e : Int) : Res := ⟨false, 0, 0, e⟩
/-- a whole number that fits, or the error -/
def fitR (n : Int) : Res := if -9223372036854775808 ≤ n ∧ n < 9223372036854775808 then okW n else bad 10
theorem fitR_in {n : Int} (h : -9223372036854775808 ≤ n ∧ n < 9223372036854775808) : fitR n = okW n := if_pos h
theorem fitR_out {n : Int} (h : ¬ (-9223372036854775808 ≤ n ∧ n < 9223372036854775808)) : fitR n = bad 10 := if_neg h

/-! ### sizes and signs -/
def sizeI (i : Int) : Int := if i < 0 then -i else i
def fr (a b : Int) : Int := if ((decide (a < 0) != decide (b < 0)) && (sizeI a % sizeI b != 0)) = true then sizeI b - sizeI a % sizeI b else sizeI a % sizeI b
/-! ### wrapped -/
theorem wrap_cases (n : Int) : ∃ k : Int, IntKind.i64.wrap n = n + k * 18446744073709551616 ∧ -9223372036854775808 ≤ IntKind.i64.wrap n ∧ IntKind.i64.wrap n < 9223372036854775808 := by
  rw [IntKind.wrap_i64]
  refine ⟨-((n + 9223372036854775808) / 18446744073709551616), by omega, by omega, by omega⟩
theorem wrap_in {n : Int} (h : -9223372036854775808 ≤ n ∧ n < 9223372036854775808) : IntKind.i64.wrap n = n := by
  obtain ⟨k, h1, h2, h3⟩ := wrap_cases n
  omega
end Go.Proofs.YtgkakflnmpoadaaGreatDoor.W.Nu
/- Contracts of package num on two whole numbers. -/
namespace Go.Proofs.YtgkakflnmpoadaaGreatDoor.W.Nu
open Go.ChangeShapes Go.WideShapes Go.RowKit
/-- a result, as the calls hand it back -/
def resV (r : Res) : Value := .tuple #[.agg #[.bool r.w, .int .i64 r.i, .int .u64 r.u], .int .i64 r.e]

set_option maxHeartbeats 1000000 in
theorem addW_in (a b s : Int) (hs : IntKind.i64.wrap (a + b) = s) (hC : (s < a ∧ b < 0) ∨ (¬ s < a ∧ ¬ b < 0)) (w : World) :
    Calls Tryz.prog 194 #[.int .i64 a, .int .i64 b] w fun e w' => e = .returned (.tuple #[.agg #[.bool true, .int .i64 s, .int .u64 0], .int .i64 0]) ∧ Gr w w' := by
  rcases hC with ⟨h1, h2⟩ | ⟨h1, h2⟩
  all_goals
    go_enter Tryz.func194, Tryz.ntmps194
    go_wp2_with (go_at_call 197; refine (numWhole_c _ _).mono ?_; rintro e w' ⟨rfl, hg⟩; obtain ⟨fR, fz, hG⟩ := hg.one (Nat.zero_lt_succ _); clear hg)
    exact bodyPost_ret (v := .tuple #[.agg #[.bool true, .int .i64 s, .int .u64 0], .int .i64 0]) (by simp [results, Tryz.results194, go_sem, fR]) rfl ⟨rfl, ((hG.store (Nat.le_refl _) _).store (Nat.le_refl _) _).store (Nat.le_refl _) _⟩
set_option maxHeartbeats 1000000 in
theorem addW_out (a b s : Int) (hs : IntKind.i64.wrap (a + b) = s) (hC : (s < a ∧ ¬ b < 0) ∨ (¬ s < a ∧ b < 0)) (w : World) :
    Calls Tryz.prog 194 #[.int .i64 a, .int .i64 b] w fun e w' => e = .returned (.tuple #[.agg #[.bool false, .int .i64 0, .int .u64 0], .int .i64 10]) ∧ Gr w w' := by
  rcases hC with ⟨h1, h2⟩ | ⟨h1, h2⟩
  all_goals
    go_enter Tryz.func194, Tryz.ntmps194
    go_wp2_with (go_at_call 196; refine (refused_c _ _).mono ?_; rintro e w' ⟨rfl, hg⟩; obtain ⟨fR, fz, hG⟩ := hg.one (Nat.zero_lt_succ _); clear hg)
    exact bodyPost_ret (v := .tuple #[.agg #[.bool false, .int .i64 0, .int .u64 0], .int .i64 10]) (by simp [results, Tryz.results194, go_sem, fR]) rfl ⟨rfl, ((hG.store (Nat.le_refl _) _).store (Nat.le_refl _) _).store (Nat.le_refl _) _⟩
theorem addW_c (a b : Int) (a0 : -9223372036854775808 ≤ a) (a1 : a < 9223372036854775808) (b0 : -9223372036854775808 ≤ b) (b1 : b < 9223372036854775808) (w : World) :
    Calls Tryz.prog 194 #[.int .i64 a, .int .i64 b] w fun e w' => e = .returned (resV (fitR (a + b))) ∧ Gr w w' := by
  by_cases h : -9223372036854775808 ≤ a + b ∧ a + b < 9223372036854775808
  · rw [fitR_in h]
    exact addW_in a b (a + b) (wrap_in h) (by omega) w
  · rw [fitR_out h]
    obtain ⟨k, h1, h2, h3⟩ := wrap_cases (a + b)
    exact addW_out a b _ rfl (by omega) w
end Go.Proofs.YtgkakflnmpoadaaGreatDoor.W.Nu
/- Contracts of package num on two whole numbers: quotients rounded down, and rests. -/
namespace Go.Proofs.YtgkakflnmpoadaaGreatDoor.W.Nu
open Go.ChangeShapes Go.WideShapes Go.RowKit

end Go.Proofs.YtgkakflnmpoadaaGreatDoor.W.Nu
