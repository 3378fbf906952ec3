import Derived.Test.YtgmimmdojkoppaaGreatDoorBase10
import Derived.Test.YtgmimmdojkoppaaGreatDoorBase7
import Derived.Test.YtgmimmdojkoppaaGreatDoorProg
import Derived.Test.YtgmimmdojkoppaaGreatDoorBase0
import Derived.WalkKit
import Derived.WalkLawsBesides
import Derived.Deep.QuietTactic
import Derived.BigQuiet
/- The heap of chapter 6 in plain words: cells by handle, their bytes, what they need, what is reached. -/
namespace Go.Proofs.YtgmimmdojkoppaaGreatDoor.W
set_option linter.unusedVariables false
/-- a cell -/
inductive Hc where
  | num (i : Int)
  | text (b : List Nat)
  | buf (k : Int) (b : List Nat)
  | view (k : Int) (base : Nat) (p n : Nat)
  | row (ws : List Nat)
/-- a word's bytes, the lowest first -/
def le8 (x : Nat) : List Nat := (List.range 8).map (fun i => x / 256 ^ i % 256)
def Hc.bytes : Hc → List Nat
  | .num i => le8 (i % 18446744073709551616).toNat
  | .text b => b
  | .buf _ b => b
  | .view _ _ _ _ => []
  | .row ws => ws.flatMap le8
/-- what stands in the table of cells -/
structure Cl where
  kind : Int
  view : Bool
  base : Nat
  frm : Int
  len : Int
def Cl.cells (c : Cl) : List Value := [.int .i64 c.kind, .bool c.view, .int .u64 c.base, .int .i64 c.frm, .int .i64 c.len]
def Hc.cl : Hc → Cl
  | .num _ => ⟨2, false, 0, 0, 0⟩
  | .text _ => ⟨4, false, 0, 0, 0⟩
  | .buf k _ => ⟨k, false, 0, 0, 0⟩
  | .view k b p n => ⟨k, true, b, p, n⟩
  | .row _ => ⟨9, false, 0, 0, 0⟩
def clO : Option Hc → Cl
  | none => ⟨0, false, 0, 0, 0⟩
  | some c => c.cl
/-- bytes of an element -/
def elB (k : Int) : Nat := if k = 5 then 8 else if k = 6 then 4 else if k = 7 then 2 else if k = 8 then 1 else 0
/-- shapes -/
def shp (k : Int) (v : Bool) : Int := if elB k > 0 then (if v = true then 4 else 3) else if v = true then 0 else if k = 2 then 1 else if k = 4 then 2 else if k = 9 then 5 else 0
def Hc.ok : Hc → Prop
  | .num i => -9223372036854775808 ≤ i ∧ i < 9223372036854775808
  | .text b => (∀ x ∈ b, x < 256) ∧ b.length ≤ 8388608
  | .buf k b => elB k > 0 ∧ (∀ x ∈ b, x < 256) ∧ b.length ≤ 8388608
  | .view k base p n => elB k > 0 ∧ base < 18446744073709551616 ∧ p ≤ 8388608 ∧ n ≤ 8388608
  | .row ws => (∀ x ∈ ws, x < 18446744073709551616) ∧ ws.length ≤ 1048576
def Hc.need (c : Hc) : Nat := 1 + (c.bytes.length + 7) / 8
def needO : Option Hc → Nat
  | none => 0
  | some c => c.need
/-- what all need -/
def sumH (H : List (Option Hc)) : Nat := (H.map needO).foldr (· + ·) 0
/-- what the extents hold -/
def hA (H : List (Option Hc)) : List (Option (List Nat)) := H.map (Option.map Hc.bytes)
/-- which cell a word is of -/
def hit (H : List (Option Hc)) (w : Nat) : Option Nat := if cls w = 6 ∧ ((H[w % 281474976710656]?).getD none).isSome = true then some (w % 281474976710656) else none
def Hc.succ : Hc → List Nat
  | .row ws => ws
  | .view _ b _ _ => [b]
  | _ => []
/-- what is reached -/
inductive Rch (H : List (Option Hc)) (ws : List Nat) : Nat → Prop
  | root (w i : Nat) : w ∈ ws → hit H w = some i → Rch H ws i
  | step (j i w : Nat) (c : Hc) : Rch H ws j → H[j]? = some (some c) → w ∈ c.succ → hit H w = some i → Rch H ws i
theorem hA_len (H : List (Option Hc)) : (hA H).length = H.length := by simp [hA]
theorem hA_get (H : List (Option Hc)) (i : Nat) : (hA H)[i]? = (H[i]?).map (Option.map Hc.bytes) := by simp [hA]
theorem hA_some {H : List (Option Hc)} {i : Nat} {c : Hc} (h : H[i]? = some (some c)) : (hA H)[i]? = some (some c.bytes) := by rw [hA_get, h]; rfl
theorem hA_set (H : List (Option Hc)) (i : Nat) (c : Option Hc) : (hA H).set i (c.map Hc.bytes) = hA (H.set i c) := by
  unfold hA; rw [List.map_set]
theorem hA_snoc (H : List (Option Hc)) (c : Option Hc) : hA (H ++ [c]) = hA H ++ [c.map Hc.bytes] := by simp [hA]
theorem le8_len (x : Nat) : (le8 x).length = 8 := by simp [le8]
theorem row_len (ws : List Nat) : (ws.flatMap le8).length = 8 * ws.length := by
  induction ws with
  | nil => rfl
  | cons w ws ih => rw [List.flatMap_cons, List.length_append, ih, le8_len, List.length_cons]; omega
theorem leN_le8 (x : Nat) (h : x < 18446744073709551616) : leN (le8 x) = x := by
  have e : le8 x = [x % 256, x / 256 % 256, x / 65536 % 256, x / 16777216 % 256, x / 4294967296 % 256, x / 1099511627776 % 256, x / 281474976710656 % 256, x / 72057594037927936 % 256] := by
    unfold le8; simp [List.range_succ]
  rw [e]
  simp only [leN]
  omega
theorem row_seg (ws : List Nat) (i w : Nat) (h : ws[i]? = some w) : seg (ws.flatMap le8) (8 * i) 8 = le8 w := by
  induction ws generalizing i with
  | nil => simp at h
  | cons a ws ih =>
    cases i with
    | zero =>
      simp at h; subst h
      unfold seg
      rw [List.flatMap_cons, Nat.mul_zero, List.drop_zero, List.take_append_of_le_length (by rw [le8_len]; omega), List.take_of_length_le (by rw [le8_len]; omega)]
    | succ i =>
      simp at h
      have := ih i h
      unfold seg at *
      rw [List.flatMap_cons, List.drop_append, le8_len, List.drop_of_length_le (by rw [le8_len]; omega), List.nil_append]
      have e : 8 * (i + 1) - 8 = 8 * i := by omega
      rw [e]; exact this
theorem row_load (ws : List Nat) (i w : Nat) (h : ws[i]? = some w) (hw : w < 18446744073709551616) : leN (seg (ws.flatMap le8) (8 * i) 8) = w := by
  rw [row_seg ws i w h, leN_le8 w hw]
theorem elB_cases (k : Int) : (elB k = 8 ∧ k = 5) ∨ (elB k = 4 ∧ k = 6) ∨ (elB k = 2 ∧ k = 7) ∨ (elB k = 1 ∧ k = 8) ∨ (elB k = 0 ∧ k ≠ 5 ∧ k ≠ 6 ∧ k ≠ 7 ∧ k ≠ 8) := by
  unfold elB
  by_cases h5 : k = 5
  · subst h5; exact .inl ⟨rfl, rfl⟩
  by_cases h6 : k = 6
  · subst h6; exact .inr (.inl ⟨rfl, rfl⟩)
  by_cases h7 : k = 7
  · subst h7; exact .inr (.inr (.inl ⟨rfl, rfl⟩))
  by_cases h8 : k = 8
  · subst h8; exact .inr (.inr (.inr (.inl ⟨rfl, rfl⟩)))
  exact .inr (.inr (.inr (.inr ⟨by simp [h5, h6, h7, h8], h5, h6, h7, h8⟩)))
theorem Hc.kind_ne {c : Hc} (h : c.ok) : c.cl.kind ≠ 0 := by
  cases c with
  | num i => exact (by decide : (2 : Int) ≠ 0)
  | text b => exact (by decide : (4 : Int) ≠ 0)
  | buf k b => intro e; have := h.1; have e' : k = 0 := e; rw [e'] at this; simp [elB] at this
  | view k b p n => intro e; have := h.1; have e' : k = 0 := e; rw [e'] at this; simp [elB] at this
  | row ws => exact (by decide : (9 : Int) ≠ 0)
def Hc.sh : Hc → Int
  | .num _ => 1
  | .text _ => 2
  | .buf _ _ => 3
  | .view _ _ _ _ => 4
  | .row _ => 5
theorem shp_eq {c : Hc} (h : c.ok) : shp c.cl.kind c.cl.view = c.sh := by
  cases c with
  | num i => show shp 2 false = 1; decide
  | text b => show shp 4 false = 2; decide
  | buf k b =>
    have := h.1
    show shp k false = 3
    unfold shp
    rw [if_pos this, if_neg (by decide)]
  | view k b p n =>
    have := h.1
    show shp k true = 4
    unfold shp
    rw [if_pos this, if_pos rfl]
  | row ws => show shp 9 false = 5; decide
theorem Hc.bytes_len {c : Hc} (h : c.ok) : c.bytes.length ≤ 8388608 := by
  cases c with
  | num i => show (le8 _).length ≤ _; rw [le8_len]; omega
  | text b => exact h.2
  | buf k b => exact h.2.2
  | view k b p n => exact Nat.zero_le _
  | row ws => show (ws.flatMap le8).length ≤ _; rw [row_len]; have := h.2; omega
theorem sumH_cons (x : Option Hc) (H : List (Option Hc)) : sumH (x :: H) = needO x + sumH H := rfl
theorem sumH_snoc (H : List (Option Hc)) (x : Option Hc) : sumH (H ++ [x]) = sumH H + needO x := by
  induction H with
  | nil => simp [sumH]
  | cons a H ih => rw [List.cons_append, sumH_cons, sumH_cons, ih]; omega
theorem sumH_set (H : List (Option Hc)) (i : Nat) (x : Option Hc) (h : i < H.length) : sumH (H.set i x) + needO H[i] = sumH H + needO x := by
  induction H generalizing i with
  | nil => exact absurd h (by simp)
  | cons a H ih =>
    cases i with
    | zero => simp only [List.set_cons_zero, sumH_cons, List.getElem_cons_zero]; omega
    | succ i =>
      have := ih i (by simpa using h)
      simp only [List.set_cons_succ, sumH_cons, List.getElem_cons_succ]; omega
theorem need_up8 (c : Hc) : up8N c.bytes.length + 8 = 8 * c.need := by unfold up8N Hc.need; omega
theorem sumA_sumH (H : List (Option Hc)) : sumA (hA H) ≤ 8 * sumH H := by
  induction H with
  | nil => exact Nat.le_refl _
  | cons a H ih =>
    show lenA (a.map Hc.bytes) + sumA (hA H) ≤ 8 * (needO a + sumH H)
    cases a with
    | none => show 0 + _ ≤ 8 * (0 + _); omega
    | some c =>
      show up8N c.bytes.length + _ ≤ 8 * (c.need + _)
      have := need_up8 c
      omega
end Go.Proofs.YtgmimmdojkoppaaGreatDoor.W
/- StoreFills: what its store holds, in plain words. -/
namespace Go.Proofs.YtgmimmdojkoppaaGreatDoor.W
set_option linter.unusedVariables false
end Go.Proofs.YtgmimmdojkoppaaGreatDoor.W
/- Package store: extents that are taken one behind the other, from an empty store on. -/
namespace Go.Proofs.YtgmimmdojkoppaaGreatDoor.W
open Go.ChangeShapes Go.WideShapes Go.RowKit Go.Shelf
set_option linter.unusedVariables false

end Go.Proofs.YtgmimmdojkoppaaGreatDoor.W
/- Package store: the statements' awake. -/
namespace Go.Proofs.YtgmimmdojkoppaaGreatDoor.W
open Go.ChangeShapes Go.WideShapes Go.RowKit Go.Shelf
set_option linter.unusedVariables false
theorem Lay.below {W W' : World} {sb : Nat} {vr vb vf : Value} {s : Sto} (h : Lay W sb vr vb vf s) (hB : Below W.heap.size W W') : Lay W' sb vr vb vf s := by
  obtain ⟨l0, l1, l2, l3⟩ := lay_lt h
  exact h.kept (hB.block _ l0) (fun k e => hB.block _ (l1 k e)) (fun k e => hB.block _ (l2 k e)) (fun k e => hB.block _ (l3 k e))
end Go.Proofs.YtgmimmdojkoppaaGreatDoor.W
/- StoreFills: rows that came in, rows of one's own beside a store. -/
namespace Go.Proofs.YtgmimmdojkoppaaGreatDoor.W
open Go.ChangeShapes Go.WideShapes Go.RowKit Go.Shelf
set_option linter.unusedVariables false
section
variable {W W' : World} {sb : Nat} {S : Nat → Prop} {A : List (Option (List Nat))} {U N : Nat}
/-- blocks of the store being as they were, it lies as it lay -/
theorem St.on (h : St W S sb A U N) (hk : ∀ k, S k → W'.heap[k]? = W.heap[k]?) : St W' S sb A U N := by
  obtain ⟨s, E, vr, vb, vf, hL, hO, f⟩ := h
  exact ⟨s, E, vr, vb, vf, hL.kept (hk _ hO.sb) (fun k e => hk k (hO.row k e)) (fun k e => hk k (hO.blk k e)) (fun k e => hk k (hO.free k e)), hO, f⟩
theorem St.mono {T : Nat → Prop} (h : St W S sb A U N) (hk : ∀ k, S k → T k) : St W T sb A U N := by
  obtain ⟨s, E, vr, vb, vf, hL, hO, f⟩ := h
  exact ⟨s, E, vr, vb, vf, hL, hO.mono hk, f⟩
theorem St.below (h : St W S sb A U N) (hb : Below W.heap.size W W') (hS : ∀ k, S k → k < W.heap.size) : St W' S sb A U N := h.on (fun k hk => hb.block k (hS k hk))
theorem owns_on {b : Nat} {e : TypeId} {size : Nat} {v : Value} {n : Nat} {xs : List Value} (ho : W.ownsRow b e size v n xs) (hk : ∀ k, v.ownBlock = some k → W'.heap[k]? = W.heap[k]?) : W'.ownsRow b e size v n xs := by
  refine ⟨ho.1, ?_⟩
  rcases ho.2 with hn | ⟨g, cap, cur, rfl, hb, hgg, rest⟩
  · exact .inl hn
  · exact .inr ⟨g, cap, cur, rfl, hb, (hk g rfl).trans hgg, rest⟩
/-- a store, and a row of one's own beside it; all behind B -/
structure Both (B : Nat) (W : World) (sb : Nat) (A : List (Option (List Nat))) (v : Value) (n : Nat) (xs : List Value) : Prop where
  ex : ∃ S, St W S sb A 20000 61 ∧ (∀ k, S k → B ≤ k ∧ k < W.heap.size) ∧ (∀ k, v.ownBlock = some k → ¬ S k)
  own : W.ownsRow B 3 1 v n xs
variable {B : Nat} {v : Value} {n : Nat} {xs : List Value}
theorem Both.below (h : Both B W sb A v n xs) (hb : Below W.heap.size W W') : Both B W' sb A v n xs := by
  obtain ⟨S, h1, h2, h3⟩ := h.ex
  have hs := hb.size
  refine ⟨⟨S, h1.below hb (fun k hk => (h2 k hk).2), fun k hk => ⟨(h2 k hk).1, by have := (h2 k hk).2; omega⟩, h3⟩, owns_on h.own (fun k hk => hb.block k ?_)⟩
  exact (h.own.lt k hk).2
theorem Both.upd {A' : List (Option (List Nat))} {S : Nat → Prop} (h2 : ∀ k, S k → B ≤ k ∧ k < W.heap.size) (h3 : ∀ k, v.ownBlock = some k → ¬ S k) (ho : W.ownsRow B 3 1 v n xs) (hB : B ≤ W.heap.size) (hU : Upd S W W') (h1 : St W' (Nx S W W') sb A' 20000 61) : Both B W' sb A' v n xs ∧ Below B W W' := by
  have hs := hU.size
  refine ⟨⟨⟨Nx S W W', h1, ?_, ?_⟩, owns_on ho (fun k hk => hU.block k (ho.lt k hk).2 (h3 k hk))⟩, hU.below hB (fun k hk => (h2 k hk).1)⟩
  · rintro k (hk | hk)
    · exact ⟨(h2 k hk).1, by have := (h2 k hk).2; omega⟩
    · exact ⟨by omega, hk.2⟩
  · rintro k hk (hk2 | hk2)
    · exact h3 k hk hk2
    · have := (ho.lt k hk).2; omega
end
section
variable {W : World} {sb : Nat} {A : List (Option (List Nat))} {B : Nat} {v : Value} {n : Nat} {xs : List Value}
end
end Go.Proofs.YtgmimmdojkoppaaGreatDoor.W
/- Contracts of the small functions of package word and of its reference: what each returns, at every argument of its kind, with the world as it was. -/
namespace Go.Proofs.YtgmimmdojkoppaaGreatDoor.W
open Go.ChangeShapes Go.WideShapes Go.RowKit

theorem ret_bool {a b : Bool} (h : a = b) : Ending.returned (.bool a) = .returned (.bool b) := by rw [h]
theorem ret_int {k : IntKind} {a b : Int} (h : a = b) : Ending.returned (.int k a) = .returned (.int k b) := by rw [h]
theorem ret_pair {v v' u u' : Value} (h : v = v') (g : u = u') : Ending.returned (.tuple #[v, u]) = .returned (.tuple #[v', u']) := by rw [h, g]
theorem ret_ib {k : IntKind} {a a' : Int} {b b' : Bool} (h : a = a') (g : b = b') : Ending.returned (.tuple #[.int k a, .bool b]) = .returned (.tuple #[.int k a', .bool b']) := by rw [h, g]
theorem ret_bb {a a' : Bool} {b b' : Bool} (h : a = a') (g : b = b') : Ending.returned (.tuple #[.bool a, .bool b]) = .returned (.tuple #[.bool a', .bool b']) := by rw [h, g]
theorem ret_sb {a a' : ByteArray} {b b' : Bool} (h : a = a') (g : b = b') : Ending.returned (.tuple #[.string a, .bool b]) = .returned (.tuple #[.string a', .bool b']) := by rw [h, g]
theorem int_eq {k : IntKind} {a b : Int} (h : a = b) : Value.int k a = Value.int k b := by rw [h]

set_option maxHeartbeats 400000 in
theorem isNaN_c (n : Int) (h0 : 0 ≤ n) (h1 : n < 18446744073709551616) (w : World) :
    Calls Tryz.prog 64 #[.int .u64 n] w fun e w' => e = .returned (.bool (nanB n)) ∧ w' = w := by
  go_enter Tryz.func64, Tryz.ntmps64
  go_wp2
  go_ret
  exact ⟨ret_bool (by rw [nan_eq n h0 h1]; rfl), rfl⟩
set_option maxHeartbeats 400000 in
theorem isTagged_c (n : Int) (h0 : 0 ≤ n) (h1 : n < 18446744073709551616) (w : World) :
    Calls Tryz.prog 85 #[.int .u64 n] w fun e w' => e = .returned (.bool (decide (18444492273895866368 ≤ n))) ∧ w' = w := by
  go_enter Tryz.func85, Tryz.ntmps85
  go_wp2
  go_ret
  exact ⟨ret_bool (tagged_eq n h0 h1), rfl⟩
set_option maxHeartbeats 400000 in
theorem tagOf_c (n : Int) (h0 : 0 ≤ n) (h1 : n < 18446744073709551616) (w : World) :
    Calls Tryz.prog 86 #[.int .u64 n] w fun e w' => e = .returned (.int .u64 (n / 281474976710656 % 8)) ∧ w' = w := by
  go_enter Tryz.func86, Tryz.ntmps86
  go_wp2
  go_ret
  exact ⟨ret_int (tag_eq n h0 h1), rfl⟩
set_option maxHeartbeats 400000 in
theorem loadOf_c (n : Int) (h0 : 0 ≤ n) (h1 : n < 18446744073709551616) (w : World) :
    Calls Tryz.prog 88 #[.int .u64 n] w fun e w' => e = .returned (.int .u64 (n % 281474976710656)) ∧ w' = w := by
  go_enter Tryz.func88, Tryz.ntmps88
  go_wp2
  go_ret
  exact ⟨ret_int (load_eq n h0 h1), rfl⟩
set_option maxHeartbeats 400000 in
theorem join_c (t l : Int) (h0 : 0 ≤ t) (h1 : t < 8) (h2 : 0 ≤ l) (h3 : l < 281474976710656) (w : World) :
    Calls Tryz.prog 61 #[.int .u64 t, .int .u64 l] w fun e w' => e = .returned (.int .u64 (18444492273895866368 + t * 281474976710656 + l)) ∧ w' = w := by
  have hq := join_eq t l h0 h1 h2 h3
  have Hq : Hid (bits .or .u64 (bits .or .u64 18444492273895866368 (IntKind.u64.wrap (t * 281474976710656))) l = 18444492273895866368 + t * 281474976710656 + l) := hq
  clear hq h0 h1 h2 h3
  go_enter Tryz.func61, Tryz.ntmps61
  go_wp2
  go_ret
  exact ⟨ret_int Hq.out, rfl⟩
set_option maxHeartbeats 400000 in
theorem split_c (n : Int) (h0 : 0 ≤ n) (h1 : n < 18446744073709551616) (w : World) :
    Calls Tryz.prog 91 #[.int .u64 n] w fun e w' => e = .returned (.tuple #[.int .u64 (n / 1099511627776), .int .u64 (n % 1099511627776)]) ∧ w' = w := by
  go_enter Tryz.func91, Tryz.ntmps91
  go_wp2
  go_ret2
  exact ⟨ret_pair rfl (int_eq (room_eq n h0 h1)), rfl⟩
set_option maxHeartbeats 400000 in
theorem plain_c (n : Int) (w : World) :
    Calls Tryz.prog 87 #[.int .u64 n] w fun e w' => e = .returned (.int .i64 (plainCls n)) ∧ w' = w := by
  have P0 : Hid (n = 0 → plainCls n = 3) := by intro h; simp [plainCls, h]
  have P1 : Hid (n = 1 ∨ n = 2 → plainCls n = 4) := by intro h; rcases h with h | h <;> simp [plainCls, h]
  have P3 : Hid (n ≠ 0 → n ≠ 1 → n ≠ 2 → plainCls n = 7) := by intro a b c; simp [plainCls, a, b, c]
  go_enter Tryz.func87, Tryz.ntmps87
  go_wp2
  all_goals go_ret
  · exact ⟨ret_int (P0.out (by simp_all)).symm, rfl⟩
  · exact ⟨ret_int (P1.out (by simp_all)).symm, rfl⟩
  · exact ⟨ret_int (P1.out (by simp_all)).symm, rfl⟩
  · exact ⟨ret_int (P3.out (by simp_all) (by simp_all) (by simp_all)).symm, rfl⟩
theorem nan_ref1 (n : Int) (h : n / 4503599627370496 % 2048 = 2047) : (n % 4503599627370496 != 0) = nanB n := by
  unfold nanB
  rw [Bool.eq_iff_iff]
  simp only [bne_iff_ne, ne_eq, decide_eq_true_eq]
  omega
theorem nan_ref2 (n : Int) (h : ¬ n / 4503599627370496 % 2048 = 2047) : false = nanB n := by
  unfold nanB
  rw [Bool.eq_iff_iff]
  simp only [Bool.false_eq_true, decide_eq_true_eq, false_iff]
  omega
set_option maxHeartbeats 400000 in
theorem refNaN_c (n : Int) (h0 : 0 ≤ n) (h1 : n < 18446744073709551616) (w : World) :
    Calls Tryz.prog 16 #[.int .u64 n] w fun e w' => e = .returned (.bool (nanB n)) ∧ w' = w := by
  go_enter Tryz.func16, Tryz.ntmps16
  go_wp2
  all_goals go_ret
  · exact ⟨ret_bool (nan_ref1 n (by assumption)), rfl⟩
  · exact ⟨ret_bool (nan_ref2 n (by assumption)), rfl⟩
theorem pow_step (j k : Nat) (h : k < 64) (hj : j < k) : IntKind.u64.wrap (2 * 2 ^ j) = (2 : Int) ^ (j + 1) := by
  have e : (2 : Int) ^ (j + 1) = 2 * 2 ^ j := by rw [Int.pow_succ]; omega
  have l : (2 : Nat) ^ (j + 1) ≤ 2 ^ 63 := Nat.pow_le_pow_right (by decide) (by omega)
  have c : ((2 ^ (j + 1) : Nat) : Int) = (2 : Int) ^ (j + 1) := by simp
  rw [← e, ← c, IntKind.wrap_u64]
  have p : (2 : Nat) ^ 63 = 9223372036854775808 := by decide
  exact Int.emod_eq_of_lt (Int.natCast_nonneg _) (by omega)
set_option maxHeartbeats 400000 in
theorem power_c (k : Nat) (h : k < 64) (w : World) :
    Calls Tryz.prog 17 #[.int .i64 k] w fun e w' => e = .returned (.int .u64 (2 ^ k)) ∧ w' = w := by
  go_enter Tryz.func17, Tryz.ntmps17
  go_wp2
  go_loop [3, 4] (fun p i => ∃ j : Nat, j ≤ k ∧ i = .int .i64 j ∧ p = .int .u64 (2 ^ j)) (fun _ i => k - (intOf i).toNat)
  case atStart => exact ⟨0, Nat.zero_le _, rfl, rfl⟩
  case round =>
    obtain ⟨j, hj, rfl, rfl⟩ := hrel
    by_cases hlt : j < k
    · go_wp2
      go_round
      case rel => exact ⟨j + 1, hlt, by go_num, int_eq (pow_step j k h hlt)⟩
      case measure => simp [intOf]; omega
    · go_wp2
      go_ret
      have hjk : j = k := by omega
      exact ⟨ret_int (by rw [hjk]), rfl⟩
/-- the same, the argument a plain number -/
theorem power_i (k : Int) (h0 : 0 ≤ k) (h : k < 64) (w : World) :
    Calls Tryz.prog 17 #[.int .i64 k] w fun e w' => e = .returned (.int .u64 (2 ^ k.toNat)) ∧ w' = w := by
  obtain ⟨m, rfl⟩ := Int.eq_ofNat_of_zero_le h0
  exact power_c m (by omega) w
end Go.Proofs.YtgmimmdojkoppaaGreatDoor.W
