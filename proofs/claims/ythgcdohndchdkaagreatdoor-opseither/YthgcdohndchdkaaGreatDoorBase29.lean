import Derived.Test.YthgcdohndchdkaaGreatDoorBase28
import Derived.Test.YthgcdohndchdkaaGreatDoorBase4
import Derived.Shelf.Abstract
/- A row of words of a statement's own, beside its heap: append. -/
namespace Go.Proofs.YthgcdohndchdkaaGreatDoor.W
open Go.ChangeShapes Go.WideShapes Go.RowKit Go.Shelf
set_option linter.unusedVariables false
/-- words, as they stand in a row -/
def wds (ws : List Nat) : List Value := ws.map (fun x => .int .u64 (x : Nat))
section
variable {W0 W W1 W' : World} {hb : Nat} {H : List (Option Hc)} {u : Nat} {K K' : Nat → Prop}
theorem Hf.upd' {D : Nat → Prop} (q : Hf W0 W hb H u K) (hU : Upd D W W') (hD : ∀ k, D k → K k ∧ W0.heap.size ≤ k) : Hf W0 W' hb H u (fun k => K k ∨ (W.heap.size ≤ k ∧ k < W'.heap.size)) := by
  obtain ⟨h1, S, h2, h3, h4⟩ := q
  have z := hU.size
  refine ⟨h1.trans (hU.below h1.size (fun k e => (hD k e).2)), S, h2.on z (fun k e hl => hU.block k hl (fun d => (h4 k (hD k d).1).2 e)), fun k e => ⟨(h3 k e).1, by have := (h3 k e).2; omega⟩, ?_⟩
  rintro k (e | e)
  · exact ⟨by have := (h4 k e).1; omega, (h4 k e).2⟩
  · exact ⟨e.2, fun e2 => by have := (h3 k e2).2; omega⟩
/-- a row of words of one's own -/
structure Mine (W0 W : World) (K : Nat → Prop) (v : Value) (ws : List Nat) : Prop where
  row : W.ownsRow W0.heap.size 22 1 v ws.length (wds ws)
  keep : ∀ k, v.ownBlock = some k → K k
  lt : ∀ x ∈ ws, x < 18446744073709551616
  len : ws.length ≤ 900000
theorem Mine.upd {v : Value} {ws : List Nat} (o : Mine W0 W K v ws) (hU : Upd (Ch W0 K) W W') : Mine W0 W' K v ws :=
  ⟨owns_on o.row (fun k e => hU.block k (o.row.lt k e).2 (fun h => h.1 (o.keep k e))), o.keep, o.lt, o.len⟩
theorem Mine.below {v : Value} {ws : List Nat} (o : Mine W0 W K v ws) (hB : Below W.heap.size W W') : Mine W0 W' K v ws :=
  ⟨owns_on o.row (fun k e => hB.block k (o.row.lt k e).2), o.keep, o.lt, o.len⟩
theorem Mine.sub {v : Value} {ws : List Nat} (o : Mine W0 W K v ws) (h : ∀ k, K k → K' k) : Mine W0 W K' v ws := ⟨o.row, fun k e => h k (o.keep k e), o.lt, o.len⟩
end
section
variable {W0 W W1 W' : World} {hb : Nat} {H : List (Option Hc)} {u : Nat} {K K' : Nat → Prop}
end
end Go.Proofs.YthgcdohndchdkaaGreatDoor.W
/- Box, told whole: of numbers, doubles and strings, beside what is kept; what all of it takes. -/
namespace Go.Proofs.YthgcdohndchdkaaGreatDoor.W
open Go.ChangeShapes Go.WideShapes Go.RowKit Go.Shelf
set_option linter.unusedVariables false
/-- each cell is a root -/
def AllR (H : List (Option Hc)) (ws : List Nat) : Prop := ∀ (i : Nat) (c : Hc), H[i]? = some (some c) → ∃ w ∈ ws, hit H w = some i
theorem hit_ext {H H' : List (Option Hc)} (he : Ext H H') {w i : Nat} (h : hit H w = some i) : hit H' w = some i := by
  unfold hit at h ⊢
  split at h
  · rename_i c
    cases h
    have : ∃ x, H[w % 281474976710656]? = some (some x) := by
      have c2 := c.2
      cases e : H[w % 281474976710656]? with
      | none => rw [e] at c2; cases c2
      | some o => cases o with
        | none => rw [e] at c2; cases c2
        | some x => exact ⟨x, rfl⟩
    obtain ⟨x, hx⟩ := this
    rw [if_pos ⟨c.1, by rw [he _ _ hx]; rfl⟩]
  · cases h
theorem allR_put {H : List (Option Hc)} {ws : List Nat} (h : AllR H ws) (c : Hc) (hl : lid H < 281474976710656) : AllR (putH H (lid H) (some c)) (ws ++ [hw (lid H)]) := by
  intro i x hx
  by_cases e : i = lid H
  · subst e
    exact ⟨hw (lid H), by simp, hit_hw hl (putH_self H _)⟩
  · rw [putH_ne H _ i e] at hx
    obtain ⟨w, hw1, hw2⟩ := h i x hx
    exact ⟨w, List.mem_append_left _ hw1, hit_ext (ext_put H c) hw2⟩
theorem allR_snoc {H : List (Option Hc)} {ws : List Nat} (h : AllR H ws) (w : Nat) : AllR H (ws ++ [w]) := by
  intro i x hx
  obtain ⟨v, h1, h2⟩ := h i x hx
  exact ⟨v, List.mem_append_left _ h1, h2⟩
/-- a word of a whole number -/
def IsInt (H : List (Option Hc)) (w : Nat) (i : Int) : Prop := (smallB i = true ∧ (w : Int) = intW i) ∨ ∃ id, w = hw id ∧ id < 281474976710656 ∧ H[id]? = some (some (.num i))
theorem IsInt.ext {H H' : List (Option Hc)} {w : Nat} {i : Int} (h : IsInt H w i) (he : Ext H H') : IsInt H' w i := by
  rcases h with h | ⟨id, h1, h2, h3⟩
  · exact .inl h
  · exact .inr ⟨id, h1, h2, he _ _ h3⟩
theorem IsInt.cls {H : List (Option Hc)} {w : Nat} {i : Int} (h : IsInt H w i) : ¬ cls (w : Int) = 7 := by
  rcases h with ⟨h1, h2⟩ | ⟨id, rfl, h2, h3⟩
  · rw [h2, intW_cls i h1]; decide
  · rw [cls_hw id h2]; decide
theorem IsTxt.cls {H : List (Option Hc)} {w : Nat} {t : ByteArray} (h : IsTxt H w t) : ¬ W.cls (w : Int) = 7 := by
  rcases h with ⟨h1, h2⟩ | ⟨id, rfl, h2, h3⟩
  · rw [h2, txtW_cls t h1]; decide
  · rw [cls_hw id h2]; decide
/-- what a whole number takes -/
def nI (i : Int) : Nat := if smallB i = true then 0 else 2
/-- what a string takes -/
def nT (t : ByteArray) : Nat := if t.size ≤ 5 then 0 else tneed t
theorem num_need (i : Int) : (Hc.num i).need = 2 := by
  unfold Hc.need
  rw [show (Hc.num i).bytes.length = 8 from le8_len _]
/-- behind a value that was boxed -/
def BPost (W0 W1 : World) (hb : Nat) (H : List (Option Hc)) (u : Nat) (K : Nat → Prop) (V : List (Option Hc) → Nat → Prop) (n : Nat) (e : Ending) (w' : World) : Prop := ∃ (w : Nat) (H' : List (Option Hc)), e = .returned (.tuple #[.int .u64 (w : Nat), .int .i64 0]) ∧ Hf W0 w' hb H' u K ∧ Ext H H' ∧ V H' w ∧ sumH H' = sumH H + n ∧ H'.length ≤ H.length + 1 ∧ (∀ ws, AllR H ws → AllR H' (ws ++ [w])) ∧ w < 18446744073709551616 ∧ Upd (Ch W0 K) W1 w'
section
variable {W0 W W1 W' : World} {hb : Nat} {H : List (Option Hc)} {u : Nat} {K K' : Nat → Prop}
theorem BPost.two {V : List (Option Hc) → Nat → Prop} {n : Nat} {e : Ending} (h : BPost W0 W1 hb H u K V n e W') : ∃ x y, e = .returned (.tuple #[.int .u64 x, .int .i64 y]) := by
  obtain ⟨w, H', rfl, _⟩ := h
  exact ⟨_, _, rfl⟩
theorem BPost.on {W2 : World} {V : List (Option Hc) → Nat → Prop} {n : Nat} {e : Ending} (hB : Below W1.heap.size W1 W2) (h : BPost W0 W2 hb H u K V n e W') : BPost W0 W1 hb H u K V n e W' := by
  obtain ⟨w, H', rfl, h1, h2, h3, h4, h5, h6, h7, h8⟩ := h
  exact ⟨w, H', rfl, h1, h2, h3, h4, h5, h6, h7, (Upd.of_below hB).trans' h8⟩
theorem hf_num (q : Hf W0 W1 hb H u K) (i : Int) (h0 : -9223372036854775808 ≤ i) (h1 : i < 9223372036854775808) (hf : sumH H + 2 ≤ u) (vr : Value) (rs : List Nat) (hr : WordsAt W1 vr rs) :
    Calls Tryz.prog 41 #[.pointer (some ⟨hb, 0, none⟩), .agg #[.int .i64 2, .bool false, .int .i64 i, .string ⟨#[]⟩, .slice none 0 0, .slice none 0 0, .int .u64 0, .int .i64 0, .int .i64 0], vr] W1 fun e w' => e = .returned (.tuple #[.int .u64 (hw (lid H) : Nat), .int .i64 0]) ∧ Hf W0 w' hb (putH H (lid H) (some (.num i))) u K ∧ Upd (Ch W0 K) W1 w' := by
  obtain ⟨g1, S, h2, h3, h4⟩ := q
  refine (put_num h2 (fun k e => (h3 k e).2) i h0 h1 none none 0 0 vr rs hr).mono ?_
  intro e w' hP
  have hf' : sumH H + (Hc.num i).need ≤ u := by rw [num_need]; exact hf
  have hrm : roomH H u (.num i) rs = H := by unfold roomH; rw [if_pos hf']
  rw [hrm] at hP
  obtain ⟨hU, ⟨_, rfl, g⟩ | ⟨hn, _⟩⟩ := hP
  · exact ⟨rfl, Hf.put g1 h3 h4 hU g⟩
  · omega
theorem boxInt_b (q : Hf W0 W1 hb H u K) (vr : Value) (rs : List Nat) (hr : WordsAt W1 vr rs) (i : Int) (h0 : -9223372036854775808 ≤ i) (h1 : i ≤ 9223372036854775807) (hf : sumH H + 2 ≤ u) (hH : H.length ≤ 1000000) : Calls Tryz.prog 23 #[.pointer (some ⟨hb, 0, none⟩), .int .i64 i, vr] W1 (BPost W0 W1 hb H u K (fun H' w => IsInt H' w i) (nI i)) := by
  by_cases hs : smallB i = true
  · refine (boxInt_small _ vr i h0 h1 hs W1).mono ?_
    rintro e w' ⟨rfl, rfl⟩
    have hbd := intW_bd i hs
    exact ⟨(intW i).toNat, H, by rw [Int.toNat_of_nonneg (by omega)], q, Ext.refl _, .inl ⟨hs, Int.toNat_of_nonneg (by omega)⟩, by unfold nI; rw [if_pos hs]; omega, by omega, fun ws h => allR_snoc h _, by omega, Upd.refl _ _⟩
  · have cf := fromInt_c i h0 h1 W1
    have hs' : smallB i = false := by simpa using hs
    rw [hs'] at cf
    have cp := hf_num q i h0 (by omega) hf vr rs hr
    have fin : Hid (∀ w2, Hf W0 w2 hb (putH H (lid H) (some (.num i))) u K → Upd (Ch W0 K) W1 w2 → BPost W0 W1 hb H u K (fun H' w => IsInt H' w i) (nI i) (.returned (.tuple #[.int .u64 (hw (lid H) : Nat), .int .i64 0])) w2) := by
      show ∀ w2, _
      intro w2 hq hU
      have h9 := lid_le H
      refine ⟨hw (lid H), _, rfl, hq, ext_put H _, .inr ⟨lid H, rfl, by omega, putH_self H _⟩, ?_, ?_, fun ws h => allR_put h _ (by omega), hw_lt _ (by omega), hU⟩
      · unfold nI; rw [putH_sum, num_need, if_neg hs]
      · rw [putH_len]; split <;> omega
    generalize hw (lid H) = X at *
    clear q hr hs
    go_enter Tryz.func23, Tryz.ntmps23
    go_wp2_with (first | (go_at_call 40; (with_reducible refine cf.mono ?_); rintro e w' ⟨rfl, hw⟩; (have hw' := hw.symm); subst hw'; clear hw) | (go_at_call 41; (with_reducible refine cp.mono ?_); rintro e w2 ⟨rfl, hq, hU⟩; clear cp))
    go_ret2
    exact fin.out _ hq hU
theorem boxI (q : Hf W0 W1 hb H u K) (vr : Value) (rs : List Nat) (hr : WordsAt W1 vr rs) (i : Int) (h0 : -9223372036854775808 ≤ i) (h1 : i ≤ 9223372036854775807) (hf : sumH H + 2 ≤ u) (hH : H.length ≤ 1000000) : Calls Tryz.prog 8 #[.pointer (some ⟨hb, 0, none⟩), .agg #[.int .i64 2, .int .i64 i, .int .u64 0, .string ⟨#[]⟩, .int .u64 0], vr] W1 (BPost W0 W1 hb H u K (fun H' w => IsInt H' w i) (nI i)) := by
  refine (box_int _ vr i (fun w e w' => BPost W0 w hb H u K (fun H' w => IsInt H' w i) (nI i) e w') (fun w e w' h => h.two) W1 (fun w hB => boxInt_b (q.below' hB) vr rs (words_below hr hB) i h0 h1 hf hH)).mono ?_
  rintro e w' ⟨w, hB, h⟩
  exact h.on hB
theorem boxF (q : Hf W0 W1 hb H u K) (vr : Value) (bi : Int) (h0 : 0 ≤ bi) (h1 : bi < 18446744073709551616) : Calls Tryz.prog 8 #[.pointer (some ⟨hb, 0, none⟩), .agg #[.int .i64 3, .int .i64 0, .int .u64 bi, .string ⟨#[]⟩, .int .u64 0], vr] W1 (BPost W0 W1 hb H u K (fun _ w => (w : Int) = fltW bi) 0) := by
  refine (box_float _ vr bi h0 h1 W1).mono ?_
  rintro e w' ⟨rfl, hB⟩
  have hbd := fltW_bd bi h0 h1
  exact ⟨(fltW bi).toNat, H, by rw [Int.toNat_of_nonneg hbd.1], q.below' hB, Ext.refl _, Int.toNat_of_nonneg hbd.1, by omega, by omega, fun ws h => allR_snoc h _, by omega, Upd.of_below hB⟩
theorem boxText_b (q : Hf W0 W1 hb H u K) (vr : Value) (rs : List Nat) (hr : WordsAt W1 vr rs) (t : ByteArray) (hl : t.size ≤ 8388608) (hf : sumH H + tneed t ≤ u) (hH : H.length ≤ 1000000) : Calls Tryz.prog 25 #[.pointer (some ⟨hb, 0, none⟩), .string t, vr] W1 (BPost W0 W1 hb H u K (fun H' w => IsTxt H' w t) (nT t)) := by
  by_cases hs : t.size ≤ 5
  · refine (boxText_small _ vr t hs W1).mono ?_
    rintro e w' ⟨rfl, rfl⟩
    have hb5 := cls_is5 _ (txtW_cls t hs)
    exact ⟨(txtW t).toNat, H, by rw [Int.toNat_of_nonneg (by omega)], q, Ext.refl _, .inl ⟨hs, Int.toNat_of_nonneg (by omega)⟩, by unfold nT; rw [if_pos hs]; omega, by omega, fun ws h => allR_snoc h _, by omega, Upd.refl _ _⟩
  · have cf := fromText_c t (by simp [maxLen]; omega) W1
    rw [decide_eq_false hs] at cf
    have h1 : ¬ (t.size : Int) > 8388608 := by omega
    have cp := hf_text q t hl hf vr rs hr
    have fin : Hid (∀ w2, Hf W0 w2 hb (putH H (lid H) (some (.text (strB t)))) u K → Upd (Ch W0 K) W1 w2 → BPost W0 W1 hb H u K (fun H' w => IsTxt H' w t) (nT t) (.returned (.tuple #[.int .u64 (hw (lid H) : Nat), .int .i64 0])) w2) := by
      show ∀ w2, _
      intro w2 hq hU
      have h9 := lid_le H
      refine ⟨hw (lid H), _, rfl, hq, ext_put H _, .inr ⟨lid H, rfl, by omega, putH_self H _⟩, ?_, ?_, fun ws h => allR_put h _ (by omega), hw_lt _ (by omega), hU⟩
      · unfold nT; rw [putH_sum, text_need, if_neg hs]; rfl
      · rw [putH_len]; split <;> omega
    generalize hw (lid H) = X at *
    clear q hr hs
    go_enter Tryz.func25, Tryz.ntmps25
    go_wp2_with (first | (go_at_call 43; (with_reducible refine cf.mono ?_); rintro e w' ⟨rfl, hw⟩; (have hw' := hw.symm); subst hw'; clear hw) | (go_at_call 41; (with_reducible refine cp.mono ?_); rintro e w2 ⟨rfl, hq, hU⟩; clear cp))
    go_ret2
    exact fin.out _ hq hU
theorem boxS (q : Hf W0 W1 hb H u K) (vr : Value) (rs : List Nat) (hr : WordsAt W1 vr rs) (t : ByteArray) (hl : t.size ≤ 8388608) (hf : sumH H + tneed t ≤ u) (hH : H.length ≤ 1000000) : Calls Tryz.prog 8 #[.pointer (some ⟨hb, 0, none⟩), .agg #[.int .i64 4, .int .i64 0, .int .u64 0, .string t, .int .u64 0], vr] W1 (BPost W0 W1 hb H u K (fun H' w => IsTxt H' w t) (nT t)) := by
  refine (box_text _ vr t (fun w e w' => BPost W0 w hb H u K (fun H' w => IsTxt H' w t) (nT t) e w') (fun w e w' h => h.two) W1 (fun w hB => boxText_b (q.below' hB) vr rs (words_below hr hB) t hl hf hH)).mono ?_
  rintro e w' ⟨w, hB, h⟩
  exact h.on hB
theorem unbox_int {S : Nat → Prop} (q : HSt W1 S hb H u) (w : Nat) (i : Int) (h : IsInt H w i) :
    Calls Tryz.prog 18 #[.pointer (some ⟨hb, 0, none⟩), .int .u64 w] W1 fun e w' => e = .returned (.tuple #[.agg #[.int .i64 2, .int .i64 i, .int .u64 0, .string ⟨#[]⟩, .int .u64 0], .int .i64 0]) ∧ Below W1.heap.size W1 w' := by
  rcases h with ⟨h1, h2⟩ | ⟨id, rfl, h2, h3⟩
  · rw [h2]; exact unbox_sint i h1 _ W1
  · obtain ⟨sb, vc, T, l, _⟩ := q
    exact unbox_num l (hw id) (hw_lt id h2) (cls_hw id h2) id (hit_hw h2 h3) i h3
end
end Go.Proofs.YthgcdohndchdkaaGreatDoor.W
/- Package ops: done, over Unbox's and the job's contracts. -/
namespace Go.Proofs.YthgcdohndchdkaaGreatDoor.W.Nu
open Go.ChangeShapes Go.WideShapes Go.RowKit Go.Shelf
set_option linter.unusedVariables false
theorem row_cells {w : World} {b : Nat} {l : List Value} {t : TypeId} (h : w.heap[b]? = some (.cells l.toArray t (0, 0))) : ∀ j, w.cell? ⟨b, j, none⟩ = l.toArray[j]? := fun j => cell_of_row _ b j _ _ _ h
theorem row_thaw {w : World} {b : Nat} {l : List Value} {t : TypeId} (h : w.heap[b]? = some (.cells l.toArray t (0, 0))) : ∀ j, w.frozen? ⟨b, j, none⟩ = false := fun j => by simp only [World.frozen?, h]; simp
theorem set5 {w A W5 : World} {b B : Nat} {l : List Value} {t : TypeId} (f : w.heap[b]? = some (.cells l.toArray t (0, 0))) (HB : Below B A w) (hb : B ≤ b) (o0 o1 o2 o3 o4 : Nat) (x0 x1 x2 x3 x4 : Value) (hW : ((((w.setCell ⟨b, o0, none⟩ x0).setCell ⟨b, o1, none⟩ x1).setCell ⟨b, o2, none⟩ x2).setCell ⟨b, o3, none⟩ x3).setCell ⟨b, o4, none⟩ x4 = W5) :
    W5.heap[b]? = some (.cells (((((l.set o0 x0).set o1 x1).set o2 x2).set o3 x3).set o4 x4).toArray t (0, 0)) ∧ Below B A W5 ∧ (∀ (n i : Nat), n ≠ b → W5.cell? ⟨n, i, none⟩ = w.cell? ⟨n, i, none⟩) := by
  subst hW
  refine ⟨W.heap_set (W.heap_set (W.heap_set (W.heap_set (W.heap_set f o0 x0) o1 x1) o2 x2) o3 x3) o4 x4, ((((HB.setCell (p := ⟨b, o0, none⟩) hb x0).setCell (p := ⟨b, o1, none⟩) hb x1).setCell (p := ⟨b, o2, none⟩) hb x2).setCell (p := ⟨b, o3, none⟩) hb x3).setCell (p := ⟨b, o4, none⟩) hb x4, fun n i h => ?_⟩
  rw [World.cell?_setCell_far _ _ _ _ (fun e => h e.symm), World.cell?_setCell_far _ _ _ _ (fun e => h e.symm), World.cell?_setCell_far _ _ _ _ (fun e => h e.symm), World.cell?_setCell_far _ _ _ _ (fun e => h e.symm), World.cell?_setCell_far _ _ _ _ (fun e => h e.symm)]
theorem words_of2 {w : World} {wb a b : Nat} (h0 : w.cell? ⟨wb, 0, none⟩ = some (.int .u64 (a : Nat))) (h1 : w.cell? ⟨wb, 1, none⟩ = some (.int .u64 (b : Nat))) (l0 : a < 18446744073709551616) (l1 : b < 18446744073709551616) : WordsAt w (.slice (some ⟨wb, 0, none⟩) 2 2) [a, b] := by
  refine ⟨_, _, rfl, by simp, fun x hx => by simp at hx; rcases hx with rfl | rfl <;> assumption, fun i hi => ⟨_, rfl, ?_⟩⟩
  have e1 : ((⟨wb, 0, none⟩ : Addr).add i) = ⟨wb, i, none⟩ := by unfold Addr.add; split <;> simp_all
  have : i = 0 ∨ i = 1 := by simp at hi; omega
  rw [e1]
  rcases this with rfl | rfl
  · exact h0
  · exact h1
theorem words_of1 {w : World} {wb a : Nat} (h0 : w.cell? ⟨wb, 0, none⟩ = some (.int .u64 (a : Nat))) (l0 : a < 18446744073709551616) : WordsAt w (.slice (some ⟨wb, 0, none⟩) 1 1) [a] := by
  refine ⟨_, _, rfl, by simp, fun x hx => by simp at hx; rw [hx]; exact l0, fun i hi => ⟨_, rfl, ?_⟩⟩
  have e1 : ((⟨wb, 0, none⟩ : Addr).add i) = ⟨wb, i, none⟩ := by unfold Addr.add; split <;> simp_all
  have : i = 0 := by simp at hi; omega
  subst this
  rw [e1]
  exact h0
theorem row_below {w w' : World} {b : Nat} {o : Obj} (h : w.heap[b]? = some o) (hB : Below w.heap.size w w') : w'.heap[b]? = some o := (hB.block b (Array.getElem?_eq_some_iff.1 h).1).trans h
set_option maxRecDepth 100000 in
set_option maxHeartbeats 1000000 in
theorem done2_g (W : World) (hb wb : Nat) (a b : Nat) (kf : Nat) (eg : ∀ args w, (callFunc kf args).run Tryz.prog w = .ok (.enter kf args) w) (vr : Value) (rs : List Nat) (hr : WordsAt W vr rs) (hl : rs.length ≤ 999000) (k0 i0 b0 r0 : Int) (s0 : ByteArray) (k1 i1 b1 r1 : Int) (s1 : ByteArray) (hw0 : W.cell? ⟨wb, 0, none⟩ = some (.int .u64 (a : Nat))) (hw1 : W.cell? ⟨wb, 1, none⟩ = some (.int .u64 (b : Nat))) (lt0 : a < 18446744073709551616) (lt1 : b < 18446744073709551616)
    (cu0 : ∀ w', Below W.heap.size W w' → Calls Tryz.prog 18 #[.pointer (some ⟨hb, 0, none⟩), .int .u64 (a : Nat)] w' fun e w'' => e = .returned (.tuple #[.agg #[.int .i64 k0, .int .i64 i0, .int .u64 b0, .string s0, .int .u64 r0], .int .i64 0]) ∧ Below w'.heap.size w' w'') (cu1 : ∀ w', Below W.heap.size W w' → Calls Tryz.prog 18 #[.pointer (some ⟨hb, 0, none⟩), .int .u64 (b : Nat)] w' fun e w'' => e = .returned (.tuple #[.agg #[.int .i64 k1, .int .i64 i1, .int .u64 b1, .string s1, .int .u64 r1], .int .i64 0]) ∧ Below w'.heap.size w' w'')
    {R : Ending → World → Prop} (two : ∀ e w', R e w' → ∃ x y, e = .returned (.tuple #[.int .u64 x, .int .i64 y]))
    (cj : ∀ (w' : World) (vb : Nat) (vr' : Value), Below W.heap.size W w' → (∀ j, w'.cell? ⟨vb, j, none⟩ = #[.int .i64 k0, .int .i64 i0, .int .u64 b0, .string s0, .int .u64 r0, .int .i64 k1, .int .i64 i1, .int .u64 b1, .string s1, .int .u64 r1][j]?) → WordsAt w' vr' (rs ++ [a, b]) → Calls Tryz.prog kf #[.agg #[.pointer (some ⟨hb, 0, none⟩), .slice (some ⟨wb, 0, none⟩) 2 2, .slice (some ⟨vb, 0, none⟩) 2 2, vr']] w' R) :
    Calls Tryz.prog 28 #[.pointer (some ⟨hb, 0, none⟩), .func (.func kf) #[] #[], .slice (some ⟨wb, 0, none⟩) 2 2, vr] W R := by
  have T := hid two
  clear two
  have hmk := make2 W
  have hB1 : Below W.heap.size W (W.alloc (.cells #[.int .i64 0, .int .i64 0, .int .u64 0, .string ⟨#[]⟩, .int .u64 0, .int .i64 0, .int .i64 0, .int .u64 0, .string ⟨#[]⟩, .int .u64 0] 30)) := (Below.refl _ W).alloc (Nat.le_refl _) _
  have f1 : (W.alloc (.cells [.int .i64 0, .int .i64 0, .int .u64 0, .string ⟨#[]⟩, .int .u64 0, .int .i64 0, .int .i64 0, .int .u64 0, .string ⟨#[]⟩, .int .u64 0].toArray 30)).heap[W.heap.size]? = some (.cells [.int .i64 0, .int .i64 0, .int .u64 0, .string ⟨#[]⟩, .int .u64 0, .int .i64 0, .int .i64 0, .int .u64 0, .string ⟨#[]⟩, .int .u64 0].toArray 30 (0, 0)) := World.alloc_heap_new W (.cells #[.int .i64 0, .int .i64 0, .int .u64 0, .string ⟨#[]⟩, .int .u64 0, .int .i64 0, .int .i64 0, .int .u64 0, .string ⟨#[]⟩, .int .u64 0] 30)
  obtain ⟨o1, cap1, hvr, -⟩ := id hr
  subst hvr
  have hWB : Hid (W.heap.size ≤ W.heap.size) := Nat.le_refl _
  go_enter Tryz.func28, Tryz.ntmps28
  go_upto_region 3 with fail
  have hWW : wb ≠ W.heap.size := by have := cell_lt hw0; omega
  have HV := hid hB1
  have HR := hid hr
  clear hmk hr hB1
  have f := f1
  clear f1
  replace hw0 := cell_keep HV.out hw0
  replace hw1 := cell_keep HV.out hw1
  generalize hW1 : W.alloc (.cells #[.int .i64 0, .int .i64 0, .int .u64 0, .string ⟨#[]⟩, .int .u64 0, .int .i64 0, .int .i64 0, .int .u64 0, .string ⟨#[]⟩, .int .u64 0] 30) = W1 at *
  clear hW1
  go_wp2
  refine wp_loop_rounds 3 ?_
  rw [rounds_succ]
  go_upto_region 8 with (go_at_call 18; (with_reducible refine (cu0 _ HV.out).mono ?_); rintro e W2 ⟨rfl, hB2⟩; clear cu0)
  have hB3 : Below W2.heap.size W2 (W2.alloc (.cells #[.int .i64 k0, .int .i64 i0, .int .u64 b0, .string s0, .int .u64 r0] 30)) := (Below.refl _ W2).alloc (Nat.le_refl _) _
  have hB4 := hB2.trans (hB3.mono hB2.size)
  replace HV := hid (HV.out.trans (hB4.mono HV.out.size))
  replace f := row_below f hB4
  replace hw0 := cell_keep hB4 hw0
  replace hw1 := cell_keep hB4 hw1
  have e13 := World.cell?_alloc_new W2 #[.int .i64 k0, .int .i64 i0, .int .u64 b0, .string s0, .int .u64 r0] 30
  have cv := row_cells f
  have zv := row_thaw f
  clear hB2 hB3 hB4
  generalize W2.heap.size = b13 at *
  generalize W2.alloc (.cells #[.int .i64 k0, .int .i64 i0, .int .u64 b0, .string s0, .int .u64 r0] 30) = W3 at *
  have F := hid f
  clear f
  go_upto_region 9 with fail
  generalize hW5 : World.setCell _ _ _ = W5
  obtain ⟨f, hB5, far⟩ := set5 F.out HV.out (Nat.le_refl _) 0 1 2 3 4 _ _ _ _ _ hW5
  replace f : W5.heap[W.heap.size]? = some (.cells [.int .i64 k0, .int .i64 i0, .int .u64 b0, .string s0, .int .u64 r0, .int .i64 0, .int .i64 0, .int .u64 0, .string ⟨#[]⟩, .int .u64 0].toArray 30 (0, 0)) := f
  replace HV := hid hB5
  replace hw0 := (far _ _ hWW).trans hw0
  replace hw1 := (far _ _ hWW).trans hw1
  clear hW5 F cv zv e13 far hB5
  go_wp2
  rw [rounds_succ]
  go_upto_region 8 with (go_at_call 18; (with_reducible refine (cu1 _ HV.out).mono ?_); rintro e W2 ⟨rfl, hB2⟩; clear cu1)
  have hB3 : Below W2.heap.size W2 (W2.alloc (.cells #[.int .i64 k1, .int .i64 i1, .int .u64 b1, .string s1, .int .u64 r1] 30)) := (Below.refl _ W2).alloc (Nat.le_refl _) _
  have hB4 := hB2.trans (hB3.mono hB2.size)
  replace HV := hid (HV.out.trans (hB4.mono HV.out.size))
  replace f := row_below f hB4
  replace hw0 := cell_keep hB4 hw0
  replace hw1 := cell_keep hB4 hw1
  have e13 := World.cell?_alloc_new W2 #[.int .i64 k1, .int .i64 i1, .int .u64 b1, .string s1, .int .u64 r1] 30
  have cv := row_cells f
  have zv := row_thaw f
  clear hB2 hB3 hB4
  generalize W2.heap.size = b13 at *
  generalize W2.alloc (.cells #[.int .i64 k1, .int .i64 i1, .int .u64 b1, .string s1, .int .u64 r1] 30) = W3 at *
  have F := hid f
  clear f
  go_upto_region 9 with fail
  generalize hW5 : World.setCell _ _ _ = W5
  obtain ⟨f, hB5, far⟩ := set5 F.out HV.out (Nat.le_refl _) 5 6 7 8 9 _ _ _ _ _ hW5
  replace f : W5.heap[W.heap.size]? = some (.cells [.int .i64 k0, .int .i64 i0, .int .u64 b0, .string s0, .int .u64 r0, .int .i64 k1, .int .i64 i1, .int .u64 b1, .string s1, .int .u64 r1].toArray 30 (0, 0)) := f
  replace HV := hid hB5
  replace hw0 := (far _ _ hWW).trans hw0
  replace hw1 := (far _ _ hWW).trans hw1
  clear hW5 F cv zv e13 far hB5
  go_wp2
  rw [rounds_succ]
  go_upto_region 10 with fail
  have hBa : Below W5.heap.size W5 (W5.alloc (.cells #[.slice o1 rs.length cap1, .slice (some ⟨wb, 0, none⟩) 2 2] 34)) := (Below.refl _ W5).alloc (Nat.le_refl _) _
  have e0 := World.cell?_alloc_new W5 #[.slice o1 rs.length cap1, .slice (some ⟨wb, 0, none⟩) 2 2] 34
  have ww : WordsAt W5 (.slice (some ⟨wb, 0, none⟩) 2 2) [a, b] := words_of2 hw0 hw1 lt0 lt1
  have cs := sconcat_c (W5.alloc (.cells #[.slice o1 rs.length cap1, .slice (some ⟨wb, 0, none⟩) 2 2] 34)) W5.heap.size 2 _ _ rs [a, b] (e0 0) (e0 1) (words_below (words_below HR.out HV.out) hBa) (words_below ww hBa) (by simp only [List.length_cons, List.length_nil]; omega) (by simp)
  have cx : ∀ (w2 : World) (v : Value), Below (W5.alloc (.cells #[.slice o1 rs.length cap1, .slice (some ⟨wb, 0, none⟩) 2 2] 34)).heap.size (W5.alloc (.cells #[.slice o1 rs.length cap1, .slice (some ⟨wb, 0, none⟩) 2 2] 34)) w2 → WordsAt w2 v (rs ++ [a, b]) → Calls Tryz.prog kf #[.agg #[.pointer (some ⟨hb, 0, none⟩), .slice (some ⟨wb, 0, none⟩) 2 2, .slice (some ⟨W.heap.size, 0, none⟩) 2 2, v]] w2 R := by
    intro w2 v hB hv
    have hBb := hBa.trans (hB.mono hBa.size)
    exact cj w2 W.heap.size v (HV.out.trans (hBb.mono HV.out.size)) (row_cells (row_below f hBb)) hv
  clear cj f ww e0 hBa HR HV hw0 hw1
  go_wp2_with (first | (go_at_call 55; (with_reducible refine cs.mono ?_); rintro e w2 ⟨v, rfl, hB2, hw2⟩; (obtain ⟨o2, cap2, hv2, -⟩ := id hw2); (rw [show (rs ++ [a, b]).length = rs.length + 2 from by simp] at hv2); subst hv2; clear cs) | (go_at_fn kf; (with_reducible refine (cx _ _ hB2 hw2).mono ?_); intro e w3 h3; (obtain ⟨x, y, rfl⟩ := T.out e w3 h3); clear cx))
  exact h3
set_option maxRecDepth 100000 in
set_option maxHeartbeats 1000000 in
theorem done2_k (W : World) (hb wb : Nat) (a b : Nat) (kf : Nat) (eg : ∀ args w, (callFunc kf args).run Tryz.prog w = .ok (.enter kf args) w) (cp : Nat) (vr : Value) (rs : List Nat) (hr : WordsAt W vr rs) (hl : rs.length ≤ 999000) (k0 i0 b0 r0 : Int) (s0 : ByteArray) (k1 i1 b1 r1 : Int) (s1 : ByteArray) (hw0 : W.cell? ⟨wb, 0, none⟩ = some (.int .u64 (a : Nat))) (hw1 : W.cell? ⟨wb, 1, none⟩ = some (.int .u64 (b : Nat))) (lt0 : a < 18446744073709551616) (lt1 : b < 18446744073709551616)
    (cu0 : ∀ w', Below W.heap.size W w' → Calls Tryz.prog 18 #[.pointer (some ⟨hb, 0, none⟩), .int .u64 (a : Nat)] w' fun e w'' => e = .returned (.tuple #[.agg #[.int .i64 k0, .int .i64 i0, .int .u64 b0, .string s0, .int .u64 r0], .int .i64 0]) ∧ Below w'.heap.size w' w'') (cu1 : ∀ w', Below W.heap.size W w' → Calls Tryz.prog 18 #[.pointer (some ⟨hb, 0, none⟩), .int .u64 (b : Nat)] w' fun e w'' => e = .returned (.tuple #[.agg #[.int .i64 k1, .int .i64 i1, .int .u64 b1, .string s1, .int .u64 r1], .int .i64 0]) ∧ Below w'.heap.size w' w'')
    {R : Ending → World → Prop} (two : ∀ e w', R e w' → ∃ x y, e = .returned (.tuple #[.int .u64 x, .int .i64 y]))
    (cj : ∀ (w' : World) (vb : Nat) (vr' : Value), Below W.heap.size W w' → (∀ j, w'.cell? ⟨vb, j, none⟩ = #[.int .i64 k0, .int .i64 i0, .int .u64 b0, .string s0, .int .u64 r0, .int .i64 k1, .int .i64 i1, .int .u64 b1, .string s1, .int .u64 r1][j]?) → WordsAt w' vr' (rs ++ [a, b]) → Calls Tryz.prog kf #[.agg #[.pointer (some ⟨hb, 0, none⟩), .slice (some ⟨wb, 0, none⟩) 2 2, .slice (some ⟨vb, 0, none⟩) 2 2, vr'], .pointer (some ⟨cp, 0, none⟩)] w' R) :
    Calls Tryz.prog 28 #[.pointer (some ⟨hb, 0, none⟩), .func (.func kf) #[] #[.pointer (some ⟨cp, 0, none⟩)], .slice (some ⟨wb, 0, none⟩) 2 2, vr] W R := by
  have T := hid two
  clear two
  have hmk := make2 W
  have hB1 : Below W.heap.size W (W.alloc (.cells #[.int .i64 0, .int .i64 0, .int .u64 0, .string ⟨#[]⟩, .int .u64 0, .int .i64 0, .int .i64 0, .int .u64 0, .string ⟨#[]⟩, .int .u64 0] 30)) := (Below.refl _ W).alloc (Nat.le_refl _) _
  have f1 : (W.alloc (.cells [.int .i64 0, .int .i64 0, .int .u64 0, .string ⟨#[]⟩, .int .u64 0, .int .i64 0, .int .i64 0, .int .u64 0, .string ⟨#[]⟩, .int .u64 0].toArray 30)).heap[W.heap.size]? = some (.cells [.int .i64 0, .int .i64 0, .int .u64 0, .string ⟨#[]⟩, .int .u64 0, .int .i64 0, .int .i64 0, .int .u64 0, .string ⟨#[]⟩, .int .u64 0].toArray 30 (0, 0)) := World.alloc_heap_new W (.cells #[.int .i64 0, .int .i64 0, .int .u64 0, .string ⟨#[]⟩, .int .u64 0, .int .i64 0, .int .i64 0, .int .u64 0, .string ⟨#[]⟩, .int .u64 0] 30)
  obtain ⟨o1, cap1, hvr, -⟩ := id hr
  subst hvr
  have hWB : Hid (W.heap.size ≤ W.heap.size) := Nat.le_refl _
  go_enter Tryz.func28, Tryz.ntmps28
  go_upto_region 3 with fail
  have hWW : wb ≠ W.heap.size := by have := cell_lt hw0; omega
  have HV := hid hB1
  have HR := hid hr
  clear hmk hr hB1
  have f := f1
  clear f1
  replace hw0 := cell_keep HV.out hw0
  replace hw1 := cell_keep HV.out hw1
  generalize hW1 : W.alloc (.cells #[.int .i64 0, .int .i64 0, .int .u64 0, .string ⟨#[]⟩, .int .u64 0, .int .i64 0, .int .i64 0, .int .u64 0, .string ⟨#[]⟩, .int .u64 0] 30) = W1 at *
  clear hW1
  go_wp2
  refine wp_loop_rounds 3 ?_
  rw [rounds_succ]
  go_upto_region 8 with (go_at_call 18; (with_reducible refine (cu0 _ HV.out).mono ?_); rintro e W2 ⟨rfl, hB2⟩; clear cu0)
  have hB3 : Below W2.heap.size W2 (W2.alloc (.cells #[.int .i64 k0, .int .i64 i0, .int .u64 b0, .string s0, .int .u64 r0] 30)) := (Below.refl _ W2).alloc (Nat.le_refl _) _
  have hB4 := hB2.trans (hB3.mono hB2.size)
  replace HV := hid (HV.out.trans (hB4.mono HV.out.size))
  replace f := row_below f hB4
  replace hw0 := cell_keep hB4 hw0
  replace hw1 := cell_keep hB4 hw1
  have e13 := World.cell?_alloc_new W2 #[.int .i64 k0, .int .i64 i0, .int .u64 b0, .string s0, .int .u64 r0] 30
  have cv := row_cells f
  have zv := row_thaw f
  clear hB2 hB3 hB4
  generalize W2.heap.size = b13 at *
  generalize W2.alloc (.cells #[.int .i64 k0, .int .i64 i0, .int .u64 b0, .string s0, .int .u64 r0] 30) = W3 at *
  have F := hid f
  clear f
  go_upto_region 9 with fail
  generalize hW5 : World.setCell _ _ _ = W5
  obtain ⟨f, hB5, far⟩ := set5 F.out HV.out (Nat.le_refl _) 0 1 2 3 4 _ _ _ _ _ hW5
  replace f : W5.heap[W.heap.size]? = some (.cells [.int .i64 k0, .int .i64 i0, .int .u64 b0, .string s0, .int .u64 r0, .int .i64 0, .int .i64 0, .int .u64 0, .string ⟨#[]⟩, .int .u64 0].toArray 30 (0, 0)) := f
  replace HV := hid hB5
  replace hw0 := (far _ _ hWW).trans hw0
  replace hw1 := (far _ _ hWW).trans hw1
  clear hW5 F cv zv e13 far hB5
  go_wp2
  rw [rounds_succ]
  go_upto_region 8 with (go_at_call 18; (with_reducible refine (cu1 _ HV.out).mono ?_); rintro e W2 ⟨rfl, hB2⟩; clear cu1)
  have hB3 : Below W2.heap.size W2 (W2.alloc (.cells #[.int .i64 k1, .int .i64 i1, .int .u64 b1, .string s1, .int .u64 r1] 30)) := (Below.refl _ W2).alloc (Nat.le_refl _) _
  have hB4 := hB2.trans (hB3.mono hB2.size)
  replace HV := hid (HV.out.trans (hB4.mono HV.out.size))
  replace f := row_below f hB4
  replace hw0 := cell_keep hB4 hw0
  replace hw1 := cell_keep hB4 hw1
  have e13 := World.cell?_alloc_new W2 #[.int .i64 k1, .int .i64 i1, .int .u64 b1, .string s1, .int .u64 r1] 30
  have cv := row_cells f
  have zv := row_thaw f
  clear hB2 hB3 hB4
  generalize W2.heap.size = b13 at *
  generalize W2.alloc (.cells #[.int .i64 k1, .int .i64 i1, .int .u64 b1, .string s1, .int .u64 r1] 30) = W3 at *
  have F := hid f
  clear f
  go_upto_region 9 with fail
  generalize hW5 : World.setCell _ _ _ = W5
  obtain ⟨f, hB5, far⟩ := set5 F.out HV.out (Nat.le_refl _) 5 6 7 8 9 _ _ _ _ _ hW5
  replace f : W5.heap[W.heap.size]? = some (.cells [.int .i64 k0, .int .i64 i0, .int .u64 b0, .string s0, .int .u64 r0, .int .i64 k1, .int .i64 i1, .int .u64 b1, .string s1, .int .u64 r1].toArray 30 (0, 0)) := f
  replace HV := hid hB5
  replace hw0 := (far _ _ hWW).trans hw0
  replace hw1 := (far _ _ hWW).trans hw1
  clear hW5 F cv zv e13 far hB5
  go_wp2
  rw [rounds_succ]
  go_upto_region 10 with fail
  have hBa : Below W5.heap.size W5 (W5.alloc (.cells #[.slice o1 rs.length cap1, .slice (some ⟨wb, 0, none⟩) 2 2] 34)) := (Below.refl _ W5).alloc (Nat.le_refl _) _
  have e0 := World.cell?_alloc_new W5 #[.slice o1 rs.length cap1, .slice (some ⟨wb, 0, none⟩) 2 2] 34
  have ww : WordsAt W5 (.slice (some ⟨wb, 0, none⟩) 2 2) [a, b] := words_of2 hw0 hw1 lt0 lt1
  have cs := sconcat_c (W5.alloc (.cells #[.slice o1 rs.length cap1, .slice (some ⟨wb, 0, none⟩) 2 2] 34)) W5.heap.size 2 _ _ rs [a, b] (e0 0) (e0 1) (words_below (words_below HR.out HV.out) hBa) (words_below ww hBa) (by simp only [List.length_cons, List.length_nil]; omega) (by simp)
  have cx : ∀ (w2 : World) (v : Value), Below (W5.alloc (.cells #[.slice o1 rs.length cap1, .slice (some ⟨wb, 0, none⟩) 2 2] 34)).heap.size (W5.alloc (.cells #[.slice o1 rs.length cap1, .slice (some ⟨wb, 0, none⟩) 2 2] 34)) w2 → WordsAt w2 v (rs ++ [a, b]) → Calls Tryz.prog kf #[.agg #[.pointer (some ⟨hb, 0, none⟩), .slice (some ⟨wb, 0, none⟩) 2 2, .slice (some ⟨W.heap.size, 0, none⟩) 2 2, v], .pointer (some ⟨cp, 0, none⟩)] w2 R := by
    intro w2 v hB hv
    have hBb := hBa.trans (hB.mono hBa.size)
    exact cj w2 W.heap.size v (HV.out.trans (hBb.mono HV.out.size)) (row_cells (row_below f hBb)) hv
  clear cj f ww e0 hBa HR HV hw0 hw1
  go_wp2_with (first | (go_at_call 55; (with_reducible refine cs.mono ?_); rintro e w2 ⟨v, rfl, hB2, hw2⟩; (obtain ⟨o2, cap2, hv2, -⟩ := id hw2); (rw [show (rs ++ [a, b]).length = rs.length + 2 from by simp] at hv2); subst hv2; clear cs) | (go_at_fn kf; (with_reducible refine (cx _ _ hB2 hw2).mono ?_); intro e w3 h3; (obtain ⟨x, y, rfl⟩ := T.out e w3 h3); clear cx))
  exact h3
set_option maxRecDepth 100000 in
set_option maxHeartbeats 1000000 in
theorem done1_g (W : World) (hb wb : Nat) (a : Nat) (kf : Nat) (eg : ∀ args w, (callFunc kf args).run Tryz.prog w = .ok (.enter kf args) w) (vr : Value) (rs : List Nat) (hr : WordsAt W vr rs) (hl : rs.length ≤ 999000) (k0 i0 b0 r0 : Int) (s0 : ByteArray) (hw0 : W.cell? ⟨wb, 0, none⟩ = some (.int .u64 (a : Nat))) (lt0 : a < 18446744073709551616)
    (cu0 : ∀ w', Below W.heap.size W w' → Calls Tryz.prog 18 #[.pointer (some ⟨hb, 0, none⟩), .int .u64 (a : Nat)] w' fun e w'' => e = .returned (.tuple #[.agg #[.int .i64 k0, .int .i64 i0, .int .u64 b0, .string s0, .int .u64 r0], .int .i64 0]) ∧ Below w'.heap.size w' w'')
    {R : Ending → World → Prop} (two : ∀ e w', R e w' → ∃ x y, e = .returned (.tuple #[.int .u64 x, .int .i64 y]))
    (cj : ∀ (w' : World) (vb : Nat) (vr' : Value), Below W.heap.size W w' → (∀ j, w'.cell? ⟨vb, j, none⟩ = #[.int .i64 k0, .int .i64 i0, .int .u64 b0, .string s0, .int .u64 r0][j]?) → WordsAt w' vr' (rs ++ [a]) → Calls Tryz.prog kf #[.agg #[.pointer (some ⟨hb, 0, none⟩), .slice (some ⟨wb, 0, none⟩) 1 1, .slice (some ⟨vb, 0, none⟩) 1 1, vr']] w' R) :
    Calls Tryz.prog 28 #[.pointer (some ⟨hb, 0, none⟩), .func (.func kf) #[] #[], .slice (some ⟨wb, 0, none⟩) 1 1, vr] W R := by
  have T := hid two
  clear two
  have hmk := make1 W
  have hB1 : Below W.heap.size W (W.alloc (.cells #[.int .i64 0, .int .i64 0, .int .u64 0, .string ⟨#[]⟩, .int .u64 0] 30)) := (Below.refl _ W).alloc (Nat.le_refl _) _
  have f1 : (W.alloc (.cells [.int .i64 0, .int .i64 0, .int .u64 0, .string ⟨#[]⟩, .int .u64 0].toArray 30)).heap[W.heap.size]? = some (.cells [.int .i64 0, .int .i64 0, .int .u64 0, .string ⟨#[]⟩, .int .u64 0].toArray 30 (0, 0)) := World.alloc_heap_new W (.cells #[.int .i64 0, .int .i64 0, .int .u64 0, .string ⟨#[]⟩, .int .u64 0] 30)
  obtain ⟨o1, cap1, hvr, -⟩ := id hr
  subst hvr
  have hWB : Hid (W.heap.size ≤ W.heap.size) := Nat.le_refl _
  go_enter Tryz.func28, Tryz.ntmps28
  go_upto_region 3 with fail
  have hWW : wb ≠ W.heap.size := by have := cell_lt hw0; omega
  have HV := hid hB1
  have HR := hid hr
  clear hmk hr hB1
  have f := f1
  clear f1
  replace hw0 := cell_keep HV.out hw0
  generalize hW1 : W.alloc (.cells #[.int .i64 0, .int .i64 0, .int .u64 0, .string ⟨#[]⟩, .int .u64 0] 30) = W1 at *
  clear hW1
  go_wp2
  refine wp_loop_rounds 2 ?_
  rw [rounds_succ]
  go_upto_region 8 with (go_at_call 18; (with_reducible refine (cu0 _ HV.out).mono ?_); rintro e W2 ⟨rfl, hB2⟩; clear cu0)
  have hB3 : Below W2.heap.size W2 (W2.alloc (.cells #[.int .i64 k0, .int .i64 i0, .int .u64 b0, .string s0, .int .u64 r0] 30)) := (Below.refl _ W2).alloc (Nat.le_refl _) _
  have hB4 := hB2.trans (hB3.mono hB2.size)
  replace HV := hid (HV.out.trans (hB4.mono HV.out.size))
  replace f := row_below f hB4
  replace hw0 := cell_keep hB4 hw0
  have e13 := World.cell?_alloc_new W2 #[.int .i64 k0, .int .i64 i0, .int .u64 b0, .string s0, .int .u64 r0] 30
  have cv := row_cells f
  have zv := row_thaw f
  clear hB2 hB3 hB4
  generalize W2.heap.size = b13 at *
  generalize W2.alloc (.cells #[.int .i64 k0, .int .i64 i0, .int .u64 b0, .string s0, .int .u64 r0] 30) = W3 at *
  have F := hid f
  clear f
  go_upto_region 9 with fail
  generalize hW5 : World.setCell _ _ _ = W5
  obtain ⟨f, hB5, far⟩ := set5 F.out HV.out (Nat.le_refl _) 0 1 2 3 4 _ _ _ _ _ hW5
  replace f : W5.heap[W.heap.size]? = some (.cells [.int .i64 k0, .int .i64 i0, .int .u64 b0, .string s0, .int .u64 r0].toArray 30 (0, 0)) := f
  replace HV := hid hB5
  replace hw0 := (far _ _ hWW).trans hw0
  clear hW5 F cv zv e13 far hB5
  go_wp2
  rw [rounds_succ]
  go_upto_region 10 with fail
  have hBa : Below W5.heap.size W5 (W5.alloc (.cells #[.slice o1 rs.length cap1, .slice (some ⟨wb, 0, none⟩) 1 1] 34)) := (Below.refl _ W5).alloc (Nat.le_refl _) _
  have e0 := World.cell?_alloc_new W5 #[.slice o1 rs.length cap1, .slice (some ⟨wb, 0, none⟩) 1 1] 34
  have ww : WordsAt W5 (.slice (some ⟨wb, 0, none⟩) 1 1) [a] := words_of1 hw0 lt0
  have cs := sconcat_c (W5.alloc (.cells #[.slice o1 rs.length cap1, .slice (some ⟨wb, 0, none⟩) 1 1] 34)) W5.heap.size 2 _ _ rs [a] (e0 0) (e0 1) (words_below (words_below HR.out HV.out) hBa) (words_below ww hBa) (by simp only [List.length_cons, List.length_nil]; omega) (by simp)
  have cx : ∀ (w2 : World) (v : Value), Below (W5.alloc (.cells #[.slice o1 rs.length cap1, .slice (some ⟨wb, 0, none⟩) 1 1] 34)).heap.size (W5.alloc (.cells #[.slice o1 rs.length cap1, .slice (some ⟨wb, 0, none⟩) 1 1] 34)) w2 → WordsAt w2 v (rs ++ [a]) → Calls Tryz.prog kf #[.agg #[.pointer (some ⟨hb, 0, none⟩), .slice (some ⟨wb, 0, none⟩) 1 1, .slice (some ⟨W.heap.size, 0, none⟩) 1 1, v]] w2 R := by
    intro w2 v hB hv
    have hBb := hBa.trans (hB.mono hBa.size)
    exact cj w2 W.heap.size v (HV.out.trans (hBb.mono HV.out.size)) (row_cells (row_below f hBb)) hv
  clear cj f ww e0 hBa HR HV hw0
  go_wp2_with (first | (go_at_call 55; (with_reducible refine cs.mono ?_); rintro e w2 ⟨v, rfl, hB2, hw2⟩; (obtain ⟨o2, cap2, hv2, -⟩ := id hw2); (rw [show (rs ++ [a]).length = rs.length + 1 from by simp] at hv2); subst hv2; clear cs) | (go_at_fn kf; (with_reducible refine (cx _ _ hB2 hw2).mono ?_); intro e w3 h3; (obtain ⟨x, y, rfl⟩ := T.out e w3 h3); clear cx))
  exact h3
end Go.Proofs.YthgcdohndchdkaaGreatDoor.W.Nu
