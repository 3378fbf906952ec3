import Derived.Test.YthgcdohndchdkaaGreatDoorBase14
import Derived.Test.YthgcdohndchdkaaGreatDoorBase11
import Derived.Test.YthgcdohndchdkaaGreatDoorBase0
import Derived.Deep.RegionWith
/- The heap of chapter 6 in plain words: cells by handle, their bytes, what they need, what is reached. -/
namespace Go.Proofs.YthgcdohndchdkaaGreatDoor.W
set_option linter.unusedVariables false
/-- a cell -/
inductive Hc where
  | num (i : Int)
  | text (b : List Nat)
  | buf (k : Int) (b : List Nat)
  | view (k : Int) (base : Nat) (p n : Nat)
  | row (ws : List Nat)
/-- a word's bytes, the lowest first -/
def le8 (x : Nat) : List Nat := (List.range 8).map (fun i => x / 256 ^ i % 256)
def Hc.bytes : Hc → List Nat
  | .num i => le8 (i % 18446744073709551616).toNat
  | .text b => b
  | .buf _ b => b
  | .view _ _ _ _ => []
  | .row ws => ws.flatMap le8
/-- what stands in the table of cells -/
structure Cl where
  kind : Int
  view : Bool
  base : Nat
  frm : Int
  len : Int
def Cl.cells (c : Cl) : List Value := [.int .i64 c.kind, .bool c.view, .int .u64 c.base, .int .i64 c.frm, .int .i64 c.len]
def Hc.cl : Hc → Cl
  | .num _ => ⟨2, false, 0, 0, 0⟩
  | .text _ => ⟨4, false, 0, 0, 0⟩
  | .buf k _ => ⟨k, false, 0, 0, 0⟩
  | .view k b p n => ⟨k, true, b, p, n⟩
  | .row _ => ⟨9, false, 0, 0, 0⟩
def clO : Option Hc → Cl
  | none => ⟨0, false, 0, 0, 0⟩
  | some c => c.cl
/-- bytes of an element -/
def elB (k : Int) : Nat := if k = 5 then 8 else if k = 6 then 4 else if k = 7 then 2 else if k = 8 then 1 else 0
/-- shapes -/
def shp (k : Int) (v : Bool) : Int := if elB k > 0 then (if v = true then 4 else 3) else if v = true then 0 else if k = 2 then 1 else if k = 4 then 2 else if k = 9 then 5 else 0
def Hc.ok : Hc → Prop
  | .num i => -9223372036854775808 ≤ i ∧ i < 9223372036854775808
  | .text b => (∀ x ∈ b, x < 256) ∧ b.length ≤ 8388608
  | .buf k b => elB k > 0 ∧ (∀ x ∈ b, x < 256) ∧ b.length ≤ 8388608
  | .view k base p n => elB k > 0 ∧ base < 18446744073709551616 ∧ p ≤ 8388608 ∧ n ≤ 8388608
  | .row ws => (∀ x ∈ ws, x < 18446744073709551616) ∧ ws.length ≤ 1048576
def Hc.need (c : Hc) : Nat := 1 + (c.bytes.length + 7) / 8
def needO : Option Hc → Nat
  | none => 0
  | some c => c.need
/-- what all need -/
def sumH (H : List (Option Hc)) : Nat := (H.map needO).foldr (· + ·) 0
/-- what the extents hold -/
def hA (H : List (Option Hc)) : List (Option (List Nat)) := H.map (Option.map Hc.bytes)
/-- which cell a word is of -/
def hit (H : List (Option Hc)) (w : Nat) : Option Nat := if cls w = 6 ∧ ((H[w % 281474976710656]?).getD none).isSome = true then some (w % 281474976710656) else none
def Hc.succ : Hc → List Nat
  | .row ws => ws
  | .view _ b _ _ => [b]
  | _ => []
/-- what is reached -/
inductive Rch (H : List (Option Hc)) (ws : List Nat) : Nat → Prop
  | root (w i : Nat) : w ∈ ws → hit H w = some i → Rch H ws i
  | step (j i w : Nat) (c : Hc) : Rch H ws j → H[j]? = some (some c) → w ∈ c.succ → hit H w = some i → Rch H ws i
theorem hA_len (H : List (Option Hc)) : (hA H).length = H.length := by simp [hA]
theorem hA_get (H : List (Option Hc)) (i : Nat) : (hA H)[i]? = (H[i]?).map (Option.map Hc.bytes) := by simp [hA]
theorem hA_some {H : List (Option Hc)} {i : Nat} {c : Hc} (h : H[i]? = some (some c)) : (hA H)[i]? = some (some c.bytes) := by rw [hA_get, h]; rfl
theorem hA_set (H : List (Option Hc)) (i : Nat) (c : Option Hc) : (hA H).set i (c.map Hc.bytes) = hA (H.set i c) := by
  unfold hA; rw [List.map_set]
theorem hA_snoc (H : List (Option Hc)) (c : Option Hc) : hA (H ++ [c]) = hA H ++ [c.map Hc.bytes] := by simp [hA]
theorem le8_len (x : Nat) : (le8 x).length = 8 := by simp [le8]
theorem row_len (ws : List Nat) : (ws.flatMap le8).length = 8 * ws.length := by
  induction ws with
  | nil => rfl
  | cons w ws ih => rw [List.flatMap_cons, List.length_append, ih, le8_len, List.length_cons]; omega
theorem leN_le8 (x : Nat) (h : x < 18446744073709551616) : leN (le8 x) = x := by
  have e : le8 x = [x % 256, x / 256 % 256, x / 65536 % 256, x / 16777216 % 256, x / 4294967296 % 256, x / 1099511627776 % 256, x / 281474976710656 % 256, x / 72057594037927936 % 256] := by
    unfold le8; simp [List.range_succ]
  rw [e]
  simp only [leN]
  omega
theorem row_seg (ws : List Nat) (i w : Nat) (h : ws[i]? = some w) : seg (ws.flatMap le8) (8 * i) 8 = le8 w := by
  induction ws generalizing i with
  | nil => simp at h
  | cons a ws ih =>
    cases i with
    | zero =>
      simp at h; subst h
      unfold seg
      rw [List.flatMap_cons, Nat.mul_zero, List.drop_zero, List.take_append_of_le_length (by rw [le8_len]; omega), List.take_of_length_le (by rw [le8_len]; omega)]
    | succ i =>
      simp at h
      have := ih i h
      unfold seg at *
      rw [List.flatMap_cons, List.drop_append, le8_len, List.drop_of_length_le (by rw [le8_len]; omega), List.nil_append]
      have e : 8 * (i + 1) - 8 = 8 * i := by omega
      rw [e]; exact this
theorem row_load (ws : List Nat) (i w : Nat) (h : ws[i]? = some w) (hw : w < 18446744073709551616) : leN (seg (ws.flatMap le8) (8 * i) 8) = w := by
  rw [row_seg ws i w h, leN_le8 w hw]
theorem elB_cases (k : Int) : (elB k = 8 ∧ k = 5) ∨ (elB k = 4 ∧ k = 6) ∨ (elB k = 2 ∧ k = 7) ∨ (elB k = 1 ∧ k = 8) ∨ (elB k = 0 ∧ k ≠ 5 ∧ k ≠ 6 ∧ k ≠ 7 ∧ k ≠ 8) := by
  unfold elB
  by_cases h5 : k = 5
  · subst h5; exact .inl ⟨rfl, rfl⟩
  by_cases h6 : k = 6
  · subst h6; exact .inr (.inl ⟨rfl, rfl⟩)
  by_cases h7 : k = 7
  · subst h7; exact .inr (.inr (.inl ⟨rfl, rfl⟩))
  by_cases h8 : k = 8
  · subst h8; exact .inr (.inr (.inr (.inl ⟨rfl, rfl⟩)))
  exact .inr (.inr (.inr (.inr ⟨by simp [h5, h6, h7, h8], h5, h6, h7, h8⟩)))
theorem Hc.kind_ne {c : Hc} (h : c.ok) : c.cl.kind ≠ 0 := by
  cases c with
  | num i => exact (by decide : (2 : Int) ≠ 0)
  | text b => exact (by decide : (4 : Int) ≠ 0)
  | buf k b => intro e; have := h.1; have e' : k = 0 := e; rw [e'] at this; simp [elB] at this
  | view k b p n => intro e; have := h.1; have e' : k = 0 := e; rw [e'] at this; simp [elB] at this
  | row ws => exact (by decide : (9 : Int) ≠ 0)
def Hc.sh : Hc → Int
  | .num _ => 1
  | .text _ => 2
  | .buf _ _ => 3
  | .view _ _ _ _ => 4
  | .row _ => 5
theorem shp_eq {c : Hc} (h : c.ok) : shp c.cl.kind c.cl.view = c.sh := by
  cases c with
  | num i => show shp 2 false = 1; decide
  | text b => show shp 4 false = 2; decide
  | buf k b =>
    have := h.1
    show shp k false = 3
    unfold shp
    rw [if_pos this, if_neg (by decide)]
  | view k b p n =>
    have := h.1
    show shp k true = 4
    unfold shp
    rw [if_pos this, if_pos rfl]
  | row ws => show shp 9 false = 5; decide
theorem Hc.bytes_len {c : Hc} (h : c.ok) : c.bytes.length ≤ 8388608 := by
  cases c with
  | num i => show (le8 _).length ≤ _; rw [le8_len]; omega
  | text b => exact h.2
  | buf k b => exact h.2.2
  | view k b p n => exact Nat.zero_le _
  | row ws => show (ws.flatMap le8).length ≤ _; rw [row_len]; have := h.2; omega
theorem sumH_cons (x : Option Hc) (H : List (Option Hc)) : sumH (x :: H) = needO x + sumH H := rfl
theorem sumH_snoc (H : List (Option Hc)) (x : Option Hc) : sumH (H ++ [x]) = sumH H + needO x := by
  induction H with
  | nil => simp [sumH]
  | cons a H ih => rw [List.cons_append, sumH_cons, sumH_cons, ih]; omega
theorem sumH_set (H : List (Option Hc)) (i : Nat) (x : Option Hc) (h : i < H.length) : sumH (H.set i x) + needO H[i] = sumH H + needO x := by
  induction H generalizing i with
  | nil => exact absurd h (by simp)
  | cons a H ih =>
    cases i with
    | zero => simp only [List.set_cons_zero, sumH_cons, List.getElem_cons_zero]; omega
    | succ i =>
      have := ih i (by simpa using h)
      simp only [List.set_cons_succ, sumH_cons, List.getElem_cons_succ]; omega
theorem need_up8 (c : Hc) : up8N c.bytes.length + 8 = 8 * c.need := by unfold up8N Hc.need; omega
theorem sumA_sumH (H : List (Option Hc)) : sumA (hA H) ≤ 8 * sumH H := by
  induction H with
  | nil => exact Nat.le_refl _
  | cons a H ih =>
    show lenA (a.map Hc.bytes) + sumA (hA H) ≤ 8 * (needO a + sumH H)
    cases a with
    | none => show 0 + _ ≤ 8 * (0 + _); omega
    | some c =>
      show up8N c.bytes.length + _ ≤ 8 * (c.need + _)
      have := need_up8 c
      omega
end Go.Proofs.YthgcdohndchdkaaGreatDoor.W
/- StoreFills: what its store holds, in plain words. -/
namespace Go.Proofs.YthgcdohndchdkaaGreatDoor.W
set_option linter.unusedVariables false
end Go.Proofs.YthgcdohndchdkaaGreatDoor.W
/- Package store: extents that are taken one behind the other, from an empty store on. -/
namespace Go.Proofs.YthgcdohndchdkaaGreatDoor.W
open Go.ChangeShapes Go.WideShapes Go.RowKit Go.Shelf
set_option linter.unusedVariables false

end Go.Proofs.YthgcdohndchdkaaGreatDoor.W
/- Package store: the statements' awake. -/
namespace Go.Proofs.YthgcdohndchdkaaGreatDoor.W
open Go.ChangeShapes Go.WideShapes Go.RowKit Go.Shelf
set_option linter.unusedVariables false
theorem Lay.below {W W' : World} {sb : Nat} {vr vb vf : Value} {s : Sto} (h : Lay W sb vr vb vf s) (hB : Below W.heap.size W W') : Lay W' sb vr vb vf s := by
  obtain ⟨l0, l1, l2, l3⟩ := lay_lt h
  exact h.kept (hB.block _ l0) (fun k e => hB.block _ (l1 k e)) (fun k e => hB.block _ (l2 k e)) (fun k e => hB.block _ (l3 k e))
end Go.Proofs.YthgcdohndchdkaaGreatDoor.W
/- StoreFills: rows that came in, rows of one's own beside a store. -/
namespace Go.Proofs.YthgcdohndchdkaaGreatDoor.W
open Go.ChangeShapes Go.WideShapes Go.RowKit Go.Shelf
set_option linter.unusedVariables false
section
variable {W W' : World} {sb : Nat} {S : Nat → Prop} {A : List (Option (List Nat))} {U N : Nat}
/-- blocks of the store being as they were, it lies as it lay -/
theorem St.on (h : St W S sb A U N) (hk : ∀ k, S k → W'.heap[k]? = W.heap[k]?) : St W' S sb A U N := by
  obtain ⟨s, E, vr, vb, vf, hL, hO, f⟩ := h
  exact ⟨s, E, vr, vb, vf, hL.kept (hk _ hO.sb) (fun k e => hk k (hO.row k e)) (fun k e => hk k (hO.blk k e)) (fun k e => hk k (hO.free k e)), hO, f⟩
theorem St.mono {T : Nat → Prop} (h : St W S sb A U N) (hk : ∀ k, S k → T k) : St W T sb A U N := by
  obtain ⟨s, E, vr, vb, vf, hL, hO, f⟩ := h
  exact ⟨s, E, vr, vb, vf, hL, hO.mono hk, f⟩
theorem St.below (h : St W S sb A U N) (hb : Below W.heap.size W W') (hS : ∀ k, S k → k < W.heap.size) : St W' S sb A U N := h.on (fun k hk => hb.block k (hS k hk))
theorem owns_on {b : Nat} {e : TypeId} {size : Nat} {v : Value} {n : Nat} {xs : List Value} (ho : W.ownsRow b e size v n xs) (hk : ∀ k, v.ownBlock = some k → W'.heap[k]? = W.heap[k]?) : W'.ownsRow b e size v n xs := by
  refine ⟨ho.1, ?_⟩
  rcases ho.2 with hn | ⟨g, cap, cur, rfl, hb, hgg, rest⟩
  · exact .inl hn
  · exact .inr ⟨g, cap, cur, rfl, hb, (hk g rfl).trans hgg, rest⟩
/-- a store, and a row of one's own beside it; all behind B -/
structure Both (B : Nat) (W : World) (sb : Nat) (A : List (Option (List Nat))) (v : Value) (n : Nat) (xs : List Value) : Prop where
  ex : ∃ S, St W S sb A 20000 61 ∧ (∀ k, S k → B ≤ k ∧ k < W.heap.size) ∧ (∀ k, v.ownBlock = some k → ¬ S k)
  own : W.ownsRow B 3 1 v n xs
variable {B : Nat} {v : Value} {n : Nat} {xs : List Value}
theorem Both.below (h : Both B W sb A v n xs) (hb : Below W.heap.size W W') : Both B W' sb A v n xs := by
  obtain ⟨S, h1, h2, h3⟩ := h.ex
  have hs := hb.size
  refine ⟨⟨S, h1.below hb (fun k hk => (h2 k hk).2), fun k hk => ⟨(h2 k hk).1, by have := (h2 k hk).2; omega⟩, h3⟩, owns_on h.own (fun k hk => hb.block k ?_)⟩
  exact (h.own.lt k hk).2
theorem Both.upd {A' : List (Option (List Nat))} {S : Nat → Prop} (h2 : ∀ k, S k → B ≤ k ∧ k < W.heap.size) (h3 : ∀ k, v.ownBlock = some k → ¬ S k) (ho : W.ownsRow B 3 1 v n xs) (hB : B ≤ W.heap.size) (hU : Upd S W W') (h1 : St W' (Nx S W W') sb A' 20000 61) : Both B W' sb A' v n xs ∧ Below B W W' := by
  have hs := hU.size
  refine ⟨⟨⟨Nx S W W', h1, ?_, ?_⟩, owns_on ho (fun k hk => hU.block k (ho.lt k hk).2 (h3 k hk))⟩, hU.below hB (fun k hk => (h2 k hk).1)⟩
  · rintro k (hk | hk)
    · exact ⟨(h2 k hk).1, by have := (h2 k hk).2; omega⟩
    · exact ⟨by omega, hk.2⟩
  · rintro k hk (hk2 | hk2)
    · exact h3 k hk hk2
    · have := (ho.lt k hk).2; omega
end
section
variable {W : World} {sb : Nat} {A : List (Option (List Nat))} {B : Nat} {v : Value} {n : Nat} {xs : List Value}
end
end Go.Proofs.YthgcdohndchdkaaGreatDoor.W
/- Contracts of the class functions of package word and of its reference: each returns the class 'cls' of every pattern. -/
namespace Go.Proofs.YthgcdohndchdkaaGreatDoor.W
open Go.ChangeShapes Go.WideShapes Go.RowKit

theorem cls_dbl (n : Int) (h : nanB n = false) : cls n = 1 := by simp [cls, h]
theorem cls_canon : cls 9221120237041090560 = 1 := by decide
theorem cls_low (n : Int) (h : nanB n = true) (hc : ¬ n = 9221120237041090560) (hl : n < 18444492273895866368) : cls n = 7 := by simp [cls, h, hc, hl]
theorem nan_hi (n : Int) (h1 : n < 18446744073709551616) (h : 18444492273895866368 ≤ n) : nanB n = true := by
  unfold nanB; rw [decide_eq_true_eq]; omega
theorem cls_t0 (n : Int) (h1 : n < 18446744073709551616) (h : 18444492273895866368 ≤ n) (ht : n / 281474976710656 % 8 = 0) : cls n = plainCls (n % 281474976710656) := by
  have hn := nan_hi n h1 h
  unfold cls plainCls
  rw [hn]
  simp only [Bool.true_eq_false, false_or]
  repeat' split
  all_goals first | rfl | (exfalso; omega)
theorem cls_t1 (n : Int) (h1 : n < 18446744073709551616) (h : 18444492273895866368 ≤ n) (ht : n / 281474976710656 % 8 = 1) : cls n = 2 := by
  have hn := nan_hi n h1 h
  unfold cls
  rw [hn]
  simp only [Bool.true_eq_false, false_or]
  repeat' split
  all_goals first | rfl | (exfalso; omega)
theorem cls_t2 (n : Int) (h1 : n < 18446744073709551616) (h : 18444492273895866368 ≤ n) (ht : n / 281474976710656 % 8 = 2) : cls n = textCls (n % 281474976710656) := by
  have hn := nan_hi n h1 h
  unfold cls textCls
  rw [hn]
  simp only [Bool.true_eq_false, false_or]
  rw [if_neg (by omega), if_neg (by omega), if_neg (by omega), if_neg (by omega), if_neg (by omega), if_neg (by omega), if_pos (by omega)]
theorem cls_t3 (n : Int) (h1 : n < 18446744073709551616) (h : 18444492273895866368 ≤ n) (ht : n / 281474976710656 % 8 = 3) : cls n = 6 := by
  have hn := nan_hi n h1 h
  unfold cls
  rw [hn]
  simp only [Bool.true_eq_false, false_or]
  repeat' split
  all_goals first | rfl | (exfalso; omega)
theorem cls_t4 (n : Int) (h1 : n < 18446744073709551616) (h : 18444492273895866368 ≤ n) (ht : 4 ≤ n / 281474976710656 % 8) : cls n = 7 := by
  have hn := nan_hi n h1 h
  unfold cls
  rw [hn]
  simp only [Bool.true_eq_false, false_or]
  repeat' split
  all_goals first | rfl | (exfalso; omega)

theorem txtOk_big (l : Int) (h : 5 < l / 1099511627776) : textCls l = 7 := by
  unfold textCls txtOk
  rw [if_neg]
  simp only [decide_eq_true_eq]
  omega
theorem txtOk_room (l k : Int) (hk : k ≤ 5) (hl : l / 1099511627776 = k) :
    textCls l = if (l % 1099511627776 / 2 ^ (8 * k).toNat != 0) = true then 7 else 5 := by
  unfold textCls txtOk
  rw [hl]
  have hm : 0 ≤ l % 1099511627776 := by omega
  generalize l % 1099511627776 = r at *
  have hp : (0 : Int) < 2 ^ (8 * k).toNat := Int.pow_pos (by decide)
  by_cases c : r < 2 ^ (8 * k).toNat
  · rw [Int.ediv_eq_zero_of_lt hm c]
    simp [hk, c]
  · have : r / 2 ^ (8 * k).toNat ≠ 0 := by
      intro e
      have := Int.lt_ediv_add_one_mul_self r hp
      rw [e] at this
      omega
    simp [c, this]

set_option maxHeartbeats 400000 in
theorem classOfText_c (l : Int) (h0 : 0 ≤ l) (h1 : l < 281474976710656) (w : World) :
    Calls Tryz.prog 79 #[.int .u64 l] w fun e w' => e = .returned (.int .i64 (textCls l)) ∧ w' = w := by
  by_cases c : 5 < l / 1099511627776
  · have H := hid (txtOk_big l c)
    go_enter Tryz.func79, Tryz.ntmps79
    go_wp2_with (go_at_call 81; refine (split_c _ (by omega) (by omega) _).mono ?_; rintro e w' ⟨rfl, rfl⟩)
    go_ret
    exact ⟨ret_int H.out.symm, rfl⟩
  · obtain ⟨k, hk⟩ : ∃ k, l / 1099511627776 = k := ⟨_, rfl⟩
    have k0 : 0 ≤ k := by omega
    have k5 : k ≤ 5 := by omega
    have H := hid (txtOk_room l k k5 hk)
    have hm : 0 ≤ l % 1099511627776 := by omega
    go_enter Tryz.func79, Tryz.ntmps79
    go_wp2_with (go_at_call 81; refine (split_c _ (by omega) (by omega) _).mono ?_; rintro e w' ⟨rfl, rfl⟩)
    all_goals go_ret
    · rename_i hx
      exact ⟨ret_int (by rw [H.out, if_pos (by rcases hx with h | h; omega; exact h)]), rfl⟩
    · rename_i hx
      exact ⟨ret_int (by rw [H.out, if_neg (by rw [hx.2]; decide)]), rfl⟩

set_option maxHeartbeats 400000 in
theorem class_c (n : Int) (h0 : 0 ≤ n) (h1 : n < 18446744073709551616) (w : World) :
    Calls Tryz.prog 34 #[.int .u64 n] w fun e w' => e = .returned (.int .i64 (cls n)) ∧ w' = w := by
  by_cases c0 : nanB n = false
  · have H := hid (cls_dbl n c0)
    go_enter Tryz.func34, Tryz.ntmps34
    go_wp2_with (go_at_call 42; refine (isNaN_c _ (by omega) (by omega) _).mono ?_; rintro e w' ⟨rfl, rfl⟩)
    go_ret
    exact ⟨ret_int H.out.symm, rfl⟩
  have c0' : nanB n = true := by simpa using c0
  clear c0
  by_cases c1 : n = 9221120237041090560
  · have H := hid cls_canon
    subst c1
    go_enter Tryz.func34, Tryz.ntmps34
    go_wp2_with (go_at_call 42; refine (isNaN_c _ (by omega) (by omega) _).mono ?_; rintro e w' ⟨rfl, rfl⟩)
    go_ret
    exact ⟨ret_int H.out.symm, rfl⟩
  have d1 : (n == 9221120237041090560) = false := by simpa using c1
  by_cases c2 : n < 18444492273895866368
  · have H := hid (cls_low n c0' c1 c2)
    have d2 : decide (18444492273895866368 ≤ n) = false := by simp; omega
    clear c1
    go_enter Tryz.func34, Tryz.ntmps34
    go_wp2_with (first | (go_at_call 42; refine (isNaN_c _ (by omega) (by omega) _).mono ?_; rintro e w' ⟨rfl, rfl⟩) | (go_at_call 75; refine (isTagged_c _ (by omega) (by omega) _).mono ?_; rintro e w' ⟨rfl, rfl⟩))
    go_ret
    exact ⟨ret_int H.out.symm, rfl⟩
  have c2' : 18444492273895866368 ≤ n := by omega
  have d2 : decide (18444492273895866368 ≤ n) = true := by simp; omega
  clear c1 c2
  obtain ⟨t, ht⟩ : ∃ t, n / 281474976710656 % 8 = t := ⟨_, rfl⟩
  have t0 : 0 ≤ t := by omega
  have t8 : t < 8 := by omega
  have hload : 0 ≤ n % 281474976710656 := by omega
  have hload' : n % 281474976710656 < 281474976710656 := by omega
  by_cases e0 : t = 0
  · subst e0
    have H := hid (cls_t0 n h1 c2' ht)
    go_enter Tryz.func34, Tryz.ntmps34
    go_wp2_with (first | (go_at_call 42; refine (isNaN_c _ (by omega) (by omega) _).mono ?_; rintro e w' ⟨rfl, rfl⟩) | (go_at_call 75; refine (isTagged_c _ (by omega) (by omega) _).mono ?_; rintro e w' ⟨rfl, rfl⟩) | (go_at_call 76; refine (tagOf_c _ (by omega) (by omega) _).mono ?_; rintro e w' ⟨rfl, rfl⟩) | (go_at_call 78; refine (loadOf_c _ (by omega) (by omega) _).mono ?_; rintro e w' ⟨rfl, rfl⟩) | (go_at_call 77; refine (plain_c _ _).mono ?_; rintro e w' ⟨rfl, rfl⟩))
    go_ret
    exact ⟨ret_int H.out.symm, rfl⟩
  by_cases e1 : t = 1
  · subst e1
    have H := hid (cls_t1 n h1 c2' ht)
    go_enter Tryz.func34, Tryz.ntmps34
    go_wp2_with (first | (go_at_call 42; refine (isNaN_c _ (by omega) (by omega) _).mono ?_; rintro e w' ⟨rfl, rfl⟩) | (go_at_call 75; refine (isTagged_c _ (by omega) (by omega) _).mono ?_; rintro e w' ⟨rfl, rfl⟩) | (go_at_call 76; refine (tagOf_c _ (by omega) (by omega) _).mono ?_; rintro e w' ⟨rfl, rfl⟩))
    go_ret
    exact ⟨ret_int H.out.symm, rfl⟩
  by_cases e2 : t = 2
  · subst e2
    have H := hid (cls_t2 n h1 c2' ht)
    go_enter Tryz.func34, Tryz.ntmps34
    go_wp2_with (first | (go_at_call 42; refine (isNaN_c _ (by omega) (by omega) _).mono ?_; rintro e w' ⟨rfl, rfl⟩) | (go_at_call 75; refine (isTagged_c _ (by omega) (by omega) _).mono ?_; rintro e w' ⟨rfl, rfl⟩) | (go_at_call 76; refine (tagOf_c _ (by omega) (by omega) _).mono ?_; rintro e w' ⟨rfl, rfl⟩) | (go_at_call 78; refine (loadOf_c _ (by omega) (by omega) _).mono ?_; rintro e w' ⟨rfl, rfl⟩) | (go_at_call 79; refine (classOfText_c _ (by omega) (by omega) _).mono ?_; rintro e w' ⟨rfl, rfl⟩))
    go_ret
    exact ⟨ret_int H.out.symm, rfl⟩
  by_cases e3 : t = 3
  · subst e3
    have H := hid (cls_t3 n h1 c2' ht)
    go_enter Tryz.func34, Tryz.ntmps34
    go_wp2_with (first | (go_at_call 42; refine (isNaN_c _ (by omega) (by omega) _).mono ?_; rintro e w' ⟨rfl, rfl⟩) | (go_at_call 75; refine (isTagged_c _ (by omega) (by omega) _).mono ?_; rintro e w' ⟨rfl, rfl⟩) | (go_at_call 76; refine (tagOf_c _ (by omega) (by omega) _).mono ?_; rintro e w' ⟨rfl, rfl⟩))
    go_ret
    exact ⟨ret_int H.out.symm, rfl⟩
  · have H := hid (cls_t4 n h1 c2' (by omega))
    have f0 : (t == 0) = false := by simpa using e0
    have f1 : (t == 1) = false := by simpa using e1
    have f2 : (t == 2) = false := by simpa using e2
    have f3 : (t == 3) = false := by simpa using e3
    clear e0 e1 e2 e3
    go_enter Tryz.func34, Tryz.ntmps34
    go_wp2_with (first | (go_at_call 42; refine (isNaN_c _ (by omega) (by omega) _).mono ?_; rintro e w' ⟨rfl, rfl⟩) | (go_at_call 75; refine (isTagged_c _ (by omega) (by omega) _).mono ?_; rintro e w' ⟨rfl, rfl⟩) | (go_at_call 76; refine (tagOf_c _ (by omega) (by omega) _).mono ?_; rintro e w' ⟨rfl, rfl⟩))
    go_ret
    exact ⟨ret_int H.out.symm, rfl⟩
end Go.Proofs.YthgcdohndchdkaaGreatDoor.W
