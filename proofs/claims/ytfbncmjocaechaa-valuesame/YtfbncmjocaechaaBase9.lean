import Derived.Test.YtfbncmjocaechaaBase8
import Derived.Test.YtfbncmjocaechaaBase4
import Derived.Test.YtfbncmjocaechaaBase5
import Derived.Laws.MakeOwn
/- Box, told whole: of numbers, doubles and strings, beside what is kept; what all of it takes. -/
namespace Go.Proofs.Ytfbncmjocaechaa.W
open Go.ChangeShapes Go.WideShapes Go.RowKit Go.Shelf
set_option linter.unusedVariables false
/-- each cell is a root -/
def AllR (H : List (Option Hc)) (ws : List Nat) : Prop := ∀ (i : Nat) (c : Hc), H[i]? = some (some c) → ∃ w ∈ ws, hit H w = some i
theorem hit_ext {H H' : List (Option Hc)} (he : Ext H H') {w i : Nat} (h : hit H w = some i) : hit H' w = some i := by
  unfold hit at h ⊢
  split at h
  · rename_i c
    cases h
    have : ∃ x, H[w % 281474976710656]? = some (some x) := by
      have c2 := c.2
      cases e : H[w % 281474976710656]? with
      | none => rw [e] at c2; cases c2
      | some o => cases o with
        | none => rw [e] at c2; cases c2
        | some x => exact ⟨x, rfl⟩
    obtain ⟨x, hx⟩ := this
    rw [if_pos ⟨c.1, by rw [he _ _ hx]; rfl⟩]
  · cases h
theorem allR_put {H : List (Option Hc)} {ws : List Nat} (h : AllR H ws) (c : Hc) (hl : lid H < 281474976710656) : AllR (putH H (lid H) (some c)) (ws ++ [hw (lid H)]) := by
  intro i x hx
  by_cases e : i = lid H
  · subst e
    exact ⟨hw (lid H), by simp, hit_hw hl (putH_self H _)⟩
  · rw [putH_ne H _ i e] at hx
    obtain ⟨w, hw1, hw2⟩ := h i x hx
    exact ⟨w, List.mem_append_left _ hw1, hit_ext (ext_put H c) hw2⟩
theorem allR_snoc {H : List (Option Hc)} {ws : List Nat} (h : AllR H ws) (w : Nat) : AllR H (ws ++ [w]) := by
  intro i x hx
  obtain ⟨v, h1, h2⟩ := h i x hx
  exact ⟨v, List.mem_append_left _ h1, h2⟩
theorem allR_reach {H : List (Option Hc)} {ws : List Nat} (h : AllR H ws) : reachN H ws = sumH H := by
  have := zip_all (H := H) (ws := ws) (fun i c hc => by obtain ⟨w, h1, h2⟩ := h i c hc; exact .root w i h1 h2)
  unfold reachN
  rw [← zipK_sum, this]
/-- a word of a whole number -/
def IsInt (H : List (Option Hc)) (w : Nat) (i : Int) : Prop := (smallB i = true ∧ (w : Int) = intW i) ∨ ∃ id, w = hw id ∧ id < 281474976710656 ∧ H[id]? = some (some (.num i))
theorem IsInt.ext {H H' : List (Option Hc)} {w : Nat} {i : Int} (h : IsInt H w i) (he : Ext H H') : IsInt H' w i := by
  rcases h with h | ⟨id, h1, h2, h3⟩
  · exact .inl h
  · exact .inr ⟨id, h1, h2, he _ _ h3⟩
theorem IsInt.cls {H : List (Option Hc)} {w : Nat} {i : Int} (h : IsInt H w i) : ¬ cls (w : Int) = 7 := by
  rcases h with ⟨h1, h2⟩ | ⟨id, rfl, h2, h3⟩
  · rw [h2, intW_cls i h1]; decide
  · rw [cls_hw id h2]; decide
theorem IsTxt.cls {H : List (Option Hc)} {w : Nat} {t : ByteArray} (h : IsTxt H w t) : ¬ W.cls (w : Int) = 7 := by
  rcases h with ⟨h1, h2⟩ | ⟨id, rfl, h2, h3⟩
  · rw [h2, txtW_cls t h1]; decide
  · rw [cls_hw id h2]; decide
/-- what a whole number takes -/
def nI (i : Int) : Nat := if smallB i = true then 0 else 2
/-- what a string takes -/
def nT (t : ByteArray) : Nat := if t.size ≤ 5 then 0 else tneed t
theorem num_need (i : Int) : (Hc.num i).need = 2 := by
  unfold Hc.need
  rw [show (Hc.num i).bytes.length = 8 from le8_len _]
/-- behind a value that was boxed -/
def BPost (W0 W1 : World) (hb : Nat) (H : List (Option Hc)) (u : Nat) (K : Nat → Prop) (V : List (Option Hc) → Nat → Prop) (n : Nat) (e : Ending) (w' : World) : Prop := ∃ (w : Nat) (H' : List (Option Hc)), e = .returned (.tuple #[.int .u64 (w : Nat), .int .i64 0]) ∧ Hf W0 w' hb H' u K ∧ Ext H H' ∧ V H' w ∧ sumH H' = sumH H + n ∧ H'.length ≤ H.length + 1 ∧ (∀ ws, AllR H ws → AllR H' (ws ++ [w])) ∧ w < 18446744073709551616 ∧ Upd (Ch W0 K) W1 w'
section
variable {W0 W W1 W' : World} {hb : Nat} {H : List (Option Hc)} {u : Nat} {K K' : Nat → Prop}
theorem BPost.two {V : List (Option Hc) → Nat → Prop} {n : Nat} {e : Ending} (h : BPost W0 W1 hb H u K V n e W') : ∃ x y, e = .returned (.tuple #[.int .u64 x, .int .i64 y]) := by
  obtain ⟨w, H', rfl, _⟩ := h
  exact ⟨_, _, rfl⟩
theorem BPost.on {W2 : World} {V : List (Option Hc) → Nat → Prop} {n : Nat} {e : Ending} (hB : Below W1.heap.size W1 W2) (h : BPost W0 W2 hb H u K V n e W') : BPost W0 W1 hb H u K V n e W' := by
  obtain ⟨w, H', rfl, h1, h2, h3, h4, h5, h6, h7, h8⟩ := h
  exact ⟨w, H', rfl, h1, h2, h3, h4, h5, h6, h7, (Upd.of_below hB).trans' h8⟩
theorem hf_num (q : Hf W0 W1 hb H u K) (i : Int) (h0 : -9223372036854775808 ≤ i) (h1 : i < 9223372036854775808) (hf : sumH H + 2 ≤ u) (vr : Value) (rs : List Nat) (hr : WordsAt W1 vr rs) :
    Calls Try.prog 6 #[.pointer (some ⟨hb, 0, none⟩), .agg #[.int .i64 2, .bool false, .int .i64 i, .string ⟨#[]⟩, .slice none 0 0, .slice none 0 0, .int .u64 0, .int .i64 0, .int .i64 0], vr] W1 fun e w' => e = .returned (.tuple #[.int .u64 (hw (lid H) : Nat), .int .i64 0]) ∧ Hf W0 w' hb (putH H (lid H) (some (.num i))) u K ∧ Upd (Ch W0 K) W1 w' := by
  obtain ⟨g1, S, h2, h3, h4⟩ := q
  refine (put_num h2 (fun k e => (h3 k e).2) i h0 h1 none none 0 0 vr rs hr).mono ?_
  intro e w' hP
  have hf' : sumH H + (Hc.num i).need ≤ u := by rw [num_need]; exact hf
  have hrm : roomH H u (.num i) rs = H := by unfold roomH; rw [if_pos hf']
  rw [hrm] at hP
  obtain ⟨hU, ⟨_, rfl, g⟩ | ⟨hn, _⟩⟩ := hP
  · exact ⟨rfl, Hf.put g1 h3 h4 hU g⟩
  · omega
theorem boxInt_b (q : Hf W0 W1 hb H u K) (vr : Value) (rs : List Nat) (hr : WordsAt W1 vr rs) (i : Int) (h0 : -9223372036854775808 ≤ i) (h1 : i ≤ 9223372036854775807) (hf : sumH H + 2 ≤ u) (hH : H.length ≤ 1000000) : Calls Try.prog 14 #[.pointer (some ⟨hb, 0, none⟩), .int .i64 i, vr] W1 (BPost W0 W1 hb H u K (fun H' w => IsInt H' w i) (nI i)) := by
  by_cases hs : smallB i = true
  · refine (boxInt_small _ vr i h0 h1 hs W1).mono ?_
    rintro e w' ⟨rfl, rfl⟩
    have hbd := intW_bd i hs
    exact ⟨(intW i).toNat, H, by rw [Int.toNat_of_nonneg (by omega)], q, Ext.refl _, .inl ⟨hs, Int.toNat_of_nonneg (by omega)⟩, by unfold nI; rw [if_pos hs]; omega, by omega, fun ws h => allR_snoc h _, by omega, Upd.refl _ _⟩
  · have cf := fromInt_c i h0 h1 W1
    have hs' : smallB i = false := by simpa using hs
    rw [hs'] at cf
    have cp := hf_num q i h0 (by omega) hf vr rs hr
    have fin : Hid (∀ w2, Hf W0 w2 hb (putH H (lid H) (some (.num i))) u K → Upd (Ch W0 K) W1 w2 → BPost W0 W1 hb H u K (fun H' w => IsInt H' w i) (nI i) (.returned (.tuple #[.int .u64 (hw (lid H) : Nat), .int .i64 0])) w2) := by
      show ∀ w2, _
      intro w2 hq hU
      have h9 := lid_le H
      refine ⟨hw (lid H), _, rfl, hq, ext_put H _, .inr ⟨lid H, rfl, by omega, putH_self H _⟩, ?_, ?_, fun ws h => allR_put h _ (by omega), hw_lt _ (by omega), hU⟩
      · unfold nI; rw [putH_sum, num_need, if_neg hs]
      · rw [putH_len]; split <;> omega
    generalize hw (lid H) = X at *
    clear q hr hs
    go_enter Try.func14, Try.ntmps14
    go_wp2_with (first | (go_at_call 27; (with_reducible refine cf.mono ?_); rintro e w' ⟨rfl, hw⟩; (have hw' := hw.symm); subst hw'; clear hw) | (go_at_call 6; (with_reducible refine cp.mono ?_); rintro e w2 ⟨rfl, hq, hU⟩; clear cp))
    go_ret2
    exact fin.out _ hq hU
theorem boxI (q : Hf W0 W1 hb H u K) (vr : Value) (rs : List Nat) (hr : WordsAt W1 vr rs) (i : Int) (h0 : -9223372036854775808 ≤ i) (h1 : i ≤ 9223372036854775807) (hf : sumH H + 2 ≤ u) (hH : H.length ≤ 1000000) : Calls Try.prog 5 #[.pointer (some ⟨hb, 0, none⟩), .agg #[.int .i64 2, .int .i64 i, .int .u64 0, .string ⟨#[]⟩, .int .u64 0], vr] W1 (BPost W0 W1 hb H u K (fun H' w => IsInt H' w i) (nI i)) := by
  refine (box_int _ vr i (fun w e w' => BPost W0 w hb H u K (fun H' w => IsInt H' w i) (nI i) e w') (fun w e w' h => h.two) W1 (fun w hB => boxInt_b (q.below' hB) vr rs (words_below hr hB) i h0 h1 hf hH)).mono ?_
  rintro e w' ⟨w, hB, h⟩
  exact h.on hB
theorem boxF (q : Hf W0 W1 hb H u K) (vr : Value) (bi : Int) (h0 : 0 ≤ bi) (h1 : bi < 18446744073709551616) : Calls Try.prog 5 #[.pointer (some ⟨hb, 0, none⟩), .agg #[.int .i64 3, .int .i64 0, .int .u64 bi, .string ⟨#[]⟩, .int .u64 0], vr] W1 (BPost W0 W1 hb H u K (fun _ w => (w : Int) = fltW bi) 0) := by
  refine (box_float _ vr bi h0 h1 W1).mono ?_
  rintro e w' ⟨rfl, hB⟩
  have hbd := fltW_bd bi h0 h1
  exact ⟨(fltW bi).toNat, H, by rw [Int.toNat_of_nonneg hbd.1], q.below' hB, Ext.refl _, Int.toNat_of_nonneg hbd.1, by omega, by omega, fun ws h => allR_snoc h _, by omega, Upd.of_below hB⟩
theorem boxText_b (q : Hf W0 W1 hb H u K) (vr : Value) (rs : List Nat) (hr : WordsAt W1 vr rs) (t : ByteArray) (hl : t.size ≤ 8388608) (hf : sumH H + tneed t ≤ u) (hH : H.length ≤ 1000000) : Calls Try.prog 16 #[.pointer (some ⟨hb, 0, none⟩), .string t, vr] W1 (BPost W0 W1 hb H u K (fun H' w => IsTxt H' w t) (nT t)) := by
  by_cases hs : t.size ≤ 5
  · refine (boxText_small _ vr t hs W1).mono ?_
    rintro e w' ⟨rfl, rfl⟩
    have hb5 := cls_is5 _ (txtW_cls t hs)
    exact ⟨(txtW t).toNat, H, by rw [Int.toNat_of_nonneg (by omega)], q, Ext.refl _, .inl ⟨hs, Int.toNat_of_nonneg (by omega)⟩, by unfold nT; rw [if_pos hs]; omega, by omega, fun ws h => allR_snoc h _, by omega, Upd.refl _ _⟩
  · have cf := fromText_c t (by simp [maxLen]; omega) W1
    rw [decide_eq_false hs] at cf
    have h1 : ¬ (t.size : Int) > 8388608 := by omega
    have cp := hf_text q t hl hf vr rs hr
    have fin : Hid (∀ w2, Hf W0 w2 hb (putH H (lid H) (some (.text (strB t)))) u K → Upd (Ch W0 K) W1 w2 → BPost W0 W1 hb H u K (fun H' w => IsTxt H' w t) (nT t) (.returned (.tuple #[.int .u64 (hw (lid H) : Nat), .int .i64 0])) w2) := by
      show ∀ w2, _
      intro w2 hq hU
      have h9 := lid_le H
      refine ⟨hw (lid H), _, rfl, hq, ext_put H _, .inr ⟨lid H, rfl, by omega, putH_self H _⟩, ?_, ?_, fun ws h => allR_put h _ (by omega), hw_lt _ (by omega), hU⟩
      · unfold nT; rw [putH_sum, text_need, if_neg hs]; rfl
      · rw [putH_len]; split <;> omega
    generalize hw (lid H) = X at *
    clear q hr hs
    go_enter Try.func16, Try.ntmps16
    go_wp2_with (first | (go_at_call 29; (with_reducible refine cf.mono ?_); rintro e w' ⟨rfl, hw⟩; (have hw' := hw.symm); subst hw'; clear hw) | (go_at_call 6; (with_reducible refine cp.mono ?_); rintro e w2 ⟨rfl, hq, hU⟩; clear cp))
    go_ret2
    exact fin.out _ hq hU
theorem boxS (q : Hf W0 W1 hb H u K) (vr : Value) (rs : List Nat) (hr : WordsAt W1 vr rs) (t : ByteArray) (hl : t.size ≤ 8388608) (hf : sumH H + tneed t ≤ u) (hH : H.length ≤ 1000000) : Calls Try.prog 5 #[.pointer (some ⟨hb, 0, none⟩), .agg #[.int .i64 4, .int .i64 0, .int .u64 0, .string t, .int .u64 0], vr] W1 (BPost W0 W1 hb H u K (fun H' w => IsTxt H' w t) (nT t)) := by
  refine (box_text _ vr t (fun w e w' => BPost W0 w hb H u K (fun H' w => IsTxt H' w t) (nT t) e w') (fun w e w' h => h.two) W1 (fun w hB => boxText_b (q.below' hB) vr rs (words_below hr hB) t hl hf hH)).mono ?_
  rintro e w' ⟨w, hB, h⟩
  exact h.on hB
theorem unbox_int {S : Nat → Prop} (q : HSt W1 S hb H u) (w : Nat) (i : Int) (h : IsInt H w i) :
    Calls Try.prog 25 #[.pointer (some ⟨hb, 0, none⟩), .int .u64 w] W1 fun e w' => e = .returned (.tuple #[.agg #[.int .i64 2, .int .i64 i, .int .u64 0, .string ⟨#[]⟩, .int .u64 0], .int .i64 0]) ∧ Below W1.heap.size W1 w' := by
  rcases h with ⟨h1, h2⟩ | ⟨id, rfl, h2, h3⟩
  · rw [h2]; exact unbox_sint i h1 _ W1
  · obtain ⟨sb, vc, T, l, _⟩ := q
    exact unbox_num l (hw id) (hw_lt id h2) (cls_hw id h2) id (hit_hw h2 h3) i h3
/-- a copy of a row of words -/
theorem copy_run (ty : TypeId) (v : Value) (ws : List Nat) (h : WordsAt W1 v ws) (hl : ws.length ≤ 900000) : ∃ v' w', (Builtin.append_ #[30, 30] ty #[.slice (some ⟨W1.heap.size, 0, none⟩) 0 0, v]).run Try.prog (W1.alloc (.cells #[] 22)) = .ok v' w' ∧ WordsAt w' v' ws ∧ Below W1.heap.size W1 w' := by
  have hB1 : Below W1.heap.size W1 (W1.alloc (.cells #[] 22)) := (Below.refl _ W1).alloc (Nat.le_refl _) _
  have h0 := World.ownsRow_lit (base := W1.heap.size) (e := 22) (size := 1) W1 #[] 0 (Nat.le_refl _) (by simp) (by simp)
  obtain ⟨v', w', hrun, ho, hg⟩ := app_words (W1.alloc (.cells #[] 22)) W1.heap.size ty hB1.size (.slice (some ⟨W1.heap.size, 0, none⟩) 0 0) 0 [] h0 v ws (words_below h hB1) (by omega)
  have hU : Upd (fun k => W1.heap.size ≤ k) (W1.alloc (.cells #[] 22)) w' := (Upd.refl _ _).grown hg (fun k e => .inl (by cases e; exact Nat.le_refl _))
  have h64 := h.choose_spec.choose_spec.2.2.1
  refine ⟨v', w', hrun, words_own (B := W1.heap.size) (by simpa using ho) (by omega) h64, hB1.trans (hU.below hB1.size (fun k e => e))⟩
end
end Go.Proofs.Ytfbncmjocaechaa.W
/- casketlaw7's awake; plain, told. -/
namespace Go.Proofs.Ytfbncmjocaechaa.W
open Go.ChangeShapes Go.WideShapes Go.RowKit Go.Shelf
set_option linter.unusedVariables false
theorem sm5 : smallB 5 = true := by decide
theorem smX : smallB 140737488355328 = false := by decide
theorem awake7_c (W : World) : Calls Try.prog 9 #[] W fun e w' => e = .returned (.bool true) ∧ Below W.heap.size W w' := by
  have cn := hs_new (Below.refl W.heap.size W) 9 (by decide)
  rw [show ((9 : Nat) : Int) = 9 from rfl] at cn
  go_enter Try.func9, Try.ntmps9
  go_upto_region 4 with (go_at_call 4; (with_reducible refine cn.mono ?_); rintro e W1 ⟨hb, rfl, q1⟩; clear cn)
  have c1 := box_int (.pointer (some ⟨hb, 0, none⟩)) (.slice none 0 0) 5 (fun w e w' => e = .returned (.tuple #[.int .u64 18444773748872577029, .int .i64 0]) ∧ w' = w) (fun w e w' h => ⟨_, _, h.1⟩) W1 (fun w _ => boxInt_small _ _ 5 (by decide) (by decide) sm5 w)
  go_upto_region 5 with (go_at_call 5; (with_reducible refine c1.mono ?_); rintro e W2 ⟨w, hB2, rfl, rfl⟩; clear c1)
  have q2 := q1.below hB2
  have c2 := box_int (.pointer (some ⟨hb, 0, none⟩)) (.slice none 0 0) 140737488355328 (fun w e w' => HsPost W hb (roomH [] 9 (.num 140737488355328) []) 9 (.num 140737488355328) e w') (fun w e w' h => by rcases h with ⟨_, rfl, _⟩ | ⟨_, rfl, _⟩ <;> exact ⟨_, _, rfl⟩) W2 (fun w hB => boxInt_big q2 hB (.slice none 0 0) [] (words_nil w _ _) 140737488355328 (by decide) (by decide) smX)
  have c2' : Calls Try.prog 5 #[.pointer (some ⟨hb, 0, none⟩), .agg #[.int .i64 2, .int .i64 140737488355328, .int .u64 0, .string ⟨#[]⟩, .int .u64 0], .slice none 0 0] W2 fun e w' => e = .returned (.tuple #[.int .u64 18445336698825998336, .int .i64 0]) ∧ Hs W w' hb [some (.num 140737488355328)] 9 := by
    refine c2.mono ?_
    rintro e w' ⟨_, _, h⟩
    have := h.fits (by rw [aw_need0]; decide)
    exact this
  clear c2
  go_upto_region 6 with (go_at_call 5; (with_reducible refine c2'.mono ?_); rintro e W3 ⟨rfl, q3⟩; clear c2')
  obtain ⟨sb, vc, T, l3⟩ := q3.2.lay
  have c3 := unbox_num l3 18445336698825998336 (by decide) (by decide) 0 (by decide) 140737488355328 rfl
  rw [show ((18445336698825998336 : Nat) : Int) = 18445336698825998336 from rfl] at c3
  have b3 := hid q3.1
  clear q1 q2 q3 l3
  go_wp2_with (go_at_call 25; (with_reducible refine c3.mono ?_); rintro e W4 ⟨rfl, hB4⟩; clear c3)
  go_ret
  have b4 := b3.out.trans (hB4.mono b3.out.size)
  exact ⟨rfl, b4.alloc b4.size _⟩
end Go.Proofs.Ytfbncmjocaechaa.W
/- Package heap: load and Get, of a buffer and of a view. -/
namespace Go.Proofs.Ytfbncmjocaechaa.W
open Go.ChangeShapes Go.WideShapes Go.RowKit Go.Shelf
set_option linter.unusedVariables false
theorem nine_far (w : World) (gb : Nat) (v0 v1 v2 v3 v4 v5 v6 v7 v8 : Value) (k : Nat) (h : k ≠ gb) : (((((((((w.setCell ⟨gb, 0, none⟩ v0).setCell ⟨gb, 1, none⟩ v1).setCell ⟨gb, 2, none⟩ v2).setCell ⟨gb, 3, none⟩ v3).setCell ⟨gb, 4, none⟩ v4).setCell ⟨gb, 5, none⟩ v5).setCell ⟨gb, 6, none⟩ v6).setCell ⟨gb, 7, none⟩ v7).setCell ⟨gb, 8, none⟩ v8).heap[k]? = w.heap[k]? := by
  rw [Below.heap_setCell _ _ _ _ h, Below.heap_setCell _ _ _ _ h, Below.heap_setCell _ _ _ _ h, Below.heap_setCell _ _ _ _ h, Below.heap_setCell _ _ _ _ h, Below.heap_setCell _ _ _ _ h, Below.heap_setCell _ _ _ _ h, Below.heap_setCell _ _ _ _ h, Below.heap_setCell _ _ _ _ h]
section
variable {W W' : World} {hb sb : Nat} {vc : Value} {T : Nat → Prop} {H : List (Option Hc)} {u h : Nat}
set_option maxHeartbeats 1000000 in
theorem load_buf (g : HLay W hb sb vc T H u h) (id : Nat) (k : Int) (bs : List Nat) (hc : H[id]? = some (some (.buf k bs))) :
    Calls Try.prog 53 #[.pointer (some ⟨hb, 0, none⟩), .int .i64 id] W fun e w' => ∃ gb, e = .returned (.agg #[.int .i64 k, .bool false, .int .i64 0, .string ⟨#[]⟩, .slice (some ⟨gb, 0, none⟩) bs.length bs.length, .slice none 0 0, .int .u64 0, .int .i64 0, .int .i64 0]) ∧ W.heap.size + 1 ≤ gb ∧ Below W.heap.size W w' ∧ w'.ownsRow (W.heap.size + 1) 5 1 (.slice (some ⟨gb, 0, none⟩) bs.length bs.length) bs.length (bs.map byteV) := by
  have hidl : id < H.length := (List.getElem?_eq_some_iff.1 hc).1
  obtain ⟨b, cap, hvc, hcell, _⟩ := g.at hidl
  have c1 := g.cell 1
  simp only [List.getElem?_cons_succ, List.getElem?_cons_zero] at c1
  rw [hvc] at c1
  have k0 := hcell 0 _ hc (by omega)
  have k1 := hcell 1 _ hc (by omega)
  have k2 := hcell 2 _ hc (by omega)
  have k3 := hcell 3 _ hc (by omega)
  have k4 := hcell 4 _ hc (by omega)
  simp only [clO, Hc.cl, Cl.cells, List.getElem?_cons_succ, List.getElem?_cons_zero, Nat.add_zero] at k0 k1 k2 k3 k4
  have j0 : (0 : Int) ≤ id := by omega
  have j1 : (id : Int) < H.length := by omega
  have ho := g.ok id _ hc
  have hk : elB k > 0 := ho.1
  have cs : ∀ w, Calls Try.prog 32 #[.int .i64 k, .bool false] w fun e w' => e = .returned (.int .i64 3) ∧ w' = w := fun w => shape_buf k hk w
  clear hcell
  have hB1 : Below W.heap.size W (W.alloc (.cells #[.int .i64 0, .bool false, .int .i64 0, .string ⟨#[]⟩, .slice none 0 0, .slice none 0 0, .int .u64 0, .int .i64 0, .int .i64 0] 36)) := (Below.refl _ W).alloc (Nat.le_refl _) _
  have hs1 : (W.alloc (.cells #[.int .i64 0, .bool false, .int .i64 0, .string ⟨#[]⟩, .slice none 0 0, .slice none 0 0, .int .u64 0, .int .i64 0, .int .i64 0] 36)).heap.size = W.heap.size + 1 := World.size_alloc ..
  have e1 := World.cell?_alloc_new W #[.int .i64 0, .bool false, .int .i64 0, .string ⟨#[]⟩, .slice none 0 0, .slice none 0 0, .int .u64 0, .int .i64 0, .int .i64 0] 36
  have f1 := World.alloc_heap_new W (.cells #[.int .i64 0, .bool false, .int .i64 0, .string ⟨#[]⟩, .slice none 0 0, .slice none 0 0, .int .u64 0, .int .i64 0, .int .i64 0] 36)
  go_enter Try.func53, Try.ntmps53
  go_upto_region 1 with fail
  have c1' := below_cell hB1 c1
  have k0' := below_cell hB1 k0
  have k1' := below_cell hB1 k1
  have k2' := below_cell hB1 k2
  have k3' := below_cell hB1 k3
  have k4' := below_cell hB1 k4
  generalize hW1 : W.alloc (.cells #[.int .i64 0, .bool false, .int .i64 0, .string ⟨#[]⟩, .slice none 0 0, .slice none 0 0, .int .u64 0, .int .i64 0, .int .i64 0] 36) = W1 at *
  clear c1 k0 k1 k2 k3 k4 hW1
  go_upto_region 3 with fail
  have hB3 : Below W1.heap.size W1 ((W1.alloc (.cells #[.int .i64 k, .bool false, .int .u64 0, .int .i64 0, .int .i64 0] 84)).alloc (.cells #[.int .i64 k, .bool false, .int .i64 0, .string ⟨#[]⟩, .slice none 0 0, .slice none 0 0, .int .u64 0, .int .i64 0, .int .i64 0] 36)) := ((Below.refl _ W1).alloc (Nat.le_refl _) _).alloc (by rw [World.size_alloc]; omega) _
  have hs2 : (W1.alloc (.cells #[.int .i64 k, .bool false, .int .u64 0, .int .i64 0, .int .i64 0] 84)).heap.size = W.heap.size + 2 := by rw [World.size_alloc, hs1]
  have hs3 : ((W1.alloc (.cells #[.int .i64 k, .bool false, .int .u64 0, .int .i64 0, .int .i64 0] 84)).alloc (.cells #[.int .i64 k, .bool false, .int .i64 0, .string ⟨#[]⟩, .slice none 0 0, .slice none 0 0, .int .u64 0, .int .i64 0, .int .i64 0] 36)).heap.size = W.heap.size + 3 := by rw [World.size_alloc, hs2]
  have eO := World.cell?_alloc_new (W1.alloc (.cells #[.int .i64 k, .bool false, .int .u64 0, .int .i64 0, .int .i64 0] 84)) #[.int .i64 k, .bool false, .int .i64 0, .string ⟨#[]⟩, .slice none 0 0, .slice none 0 0, .int .u64 0, .int .i64 0, .int .i64 0] 36
  have eC := World.cell?_alloc_new W1 #[.int .i64 k, .bool false, .int .u64 0, .int .i64 0, .int .i64 0] 84
  have eC3 : ∀ j, ((W1.alloc (.cells #[.int .i64 k, .bool false, .int .u64 0, .int .i64 0, .int .i64 0] 84)).alloc (.cells #[.int .i64 k, .bool false, .int .i64 0, .string ⟨#[]⟩, .slice none 0 0, .slice none 0 0, .int .u64 0, .int .i64 0, .int .i64 0] 36)).cell? ⟨W.heap.size + 1, j, none⟩ = #[Value.int .i64 k, .bool false, .int .u64 0, .int .i64 0, .int .i64 0][j]? := by
    intro j
    rw [← hs1, ← eC j]
    exact World.cell?_of_block (Below.heap_alloc _ _ _ (by show W1.heap.size < _; rw [World.size_alloc]; omega))
  have fO := World.alloc_heap_new (W1.alloc (.cells #[.int .i64 k, .bool false, .int .u64 0, .int .i64 0, .int .i64 0] 84)) (.cells #[.int .i64 k, .bool false, .int .i64 0, .string ⟨#[]⟩, .slice none 0 0, .slice none 0 0, .int .u64 0, .int .i64 0, .int .i64 0] 36)
  rw [hs2, show W.heap.size + 2 = W.heap.size + 1 + 1 from rfl] at eO fO
  generalize (W1.alloc (.cells #[.int .i64 k, .bool false, .int .u64 0, .int .i64 0, .int .i64 0] 84)).alloc (.cells #[.int .i64 k, .bool false, .int .i64 0, .string ⟨#[]⟩, .slice none 0 0, .slice none 0 0, .int .u64 0, .int .i64 0, .int .i64 0] 36) = W3 at *
  have eR3 : ∀ j, W3.cell? ⟨W.heap.size, j, none⟩ = #[.int .i64 0, .bool false, .int .i64 0, .string ⟨#[]⟩, .slice none 0 0, .slice none 0 0, .int .u64 0, .int .i64 0, .int .i64 0][j]? := by
    intro j
    rw [World.cell?_of_block (hB3.block W.heap.size (by omega))]
    exact e1 j
  have hBW : Below W.heap.size W W3 := hB1.trans (hB3.mono hB1.size)
  have g3 := g.below hBW
  have fR : W3.heap[W.heap.size]? = some (.cells #[.int .i64 0, .bool false, .int .i64 0, .string ⟨#[]⟩, .slice none 0 0, .slice none 0 0, .int .u64 0, .int .i64 0, .int .i64 0] 36) := (hB3.block W.heap.size (by omega)).trans f1
  have c0 := g3.cell 0
  simp only [List.getElem?_cons_zero] at c0
  have cl := loadBytes_c g3 id _ hc bs rfl ho.2.1 (by have := ho.2.2; exact this)
  have kp : Hid (∀ w4, Below W3.heap.size W3 w4 → w4.heap[W.heap.size]? = some (.cells #[.int .i64 0, .bool false, .int .i64 0, .string ⟨#[]⟩, .slice none 0 0, .slice none 0 0, .int .u64 0, .int .i64 0, .int .i64 0] 36) ∧ w4.heap[W.heap.size + 1 + 1]? = some (.cells #[.int .i64 k, .bool false, .int .i64 0, .string ⟨#[]⟩, .slice none 0 0, .slice none 0 0, .int .u64 0, .int .i64 0, .int .i64 0] 36)) := by
    show ∀ w4, _
    intro w4 hB4
    exact ⟨(hB4.block _ (by omega)).trans fR, (hB4.block _ (by omega)).trans fO⟩
  clear eR3 fR fO g3 e1 c1' k0' k1' k2' k3' k4' f1
  go_upto_region 10 with (go_at_call 32; (with_reducible refine (cs _).mono ?_); rintro e w' ⟨rfl, hw⟩; (have hw' := hw.symm); subst hw'; clear hw)
  have HBW := hid hBW
  have HS3 := hid hs3
  clear g ho hc hBW hB1 hB3 hs1 hs2 hs3 j0 j1 hk
  generalize hnn : bs.length = nn at *
  go_wp2_with (go_at_call 75; (with_reducible refine cl.mono ?_); rintro e w4 ⟨gb, rfl, hgb, hB4, hown⟩; clear cl; (obtain ⟨fR, fO⟩ := kp.out w4 hB4); (have eR := fun j => cell_of_row w4 W.heap.size j _ _ _ fR); (have eO := fun j => cell_of_row w4 (W.heap.size + 1 + 1) j _ _ _ fO); (have zR := (fun j => by simp [World.frozen?, fR] : ∀ j, w4.frozen? ⟨W.heap.size, j, none⟩ = false)); (have zO := (fun j => by simp [World.frozen?, fO] : ∀ j, w4.frozen? ⟨W.heap.size + 1 + 1, j, none⟩ = false)); (have FR := hid fR); (have HB4 := hid hB4); (have HO := hid hown); (have HG := hid hgb); clear fR fO hB4 hown hgb)
  subst hnn
  have hBf : Below W.heap.size W w4 := HBW.out.trans (HB4.out.mono HBW.out.size)
  refine bodyPost_ret (cell_ret rfl _ _ W.heap.size _ _ _ _ _ _ _ _ _ (0, 0) rfl (nine_set ((Below.heap_setCell _ _ _ _ (by show W.heap.size ≠ W.heap.size + 1 + 1; omega)).trans FR.out) _ _ _ _ _ _ _ _ _)) rfl ?_
  have hge : W.heap.size + 3 ≤ gb := by have := HG.out; have := HS3.out; omega
  refine ⟨gb, rfl, by omega, nine_below (hBf.setCell (p := ⟨W.heap.size + 1 + 1, 4, none⟩) (by show W.heap.size ≤ W.heap.size + 1 + 1; omega) _) (Nat.le_refl _) _ _ _ _ _ _ _ _ _, ?_⟩
  refine owns_on (owns_base HO.out (fun g e => by cases e; show W.heap.size + 1 ≤ gb; omega)) (fun q e => ?_)
  cases e
  refine (nine_far _ _ _ _ _ _ _ _ _ _ _ gb (by omega)).trans (Below.heap_setCell _ _ _ _ ?_)
  show gb ≠ W.heap.size + 1 + 1
  omega
theorem get_buf (g : HLay W hb sb vc T H u h) (w : Nat) (hw : w < 18446744073709551616) (id : Nat) (hi : hit H w = some id) (k : Int) (bs : List Nat) (hc : H[id]? = some (some (.buf k bs))) :
    Calls Try.prog 30 #[.pointer (some ⟨hb, 0, none⟩), .int .u64 w] W fun e w' => ∃ gb, e = .returned (.tuple #[.agg #[.int .i64 k, .bool false, .int .i64 0, .string ⟨#[]⟩, .slice (some ⟨gb, 0, none⟩) bs.length bs.length, .slice none 0 0, .int .u64 0, .int .i64 0, .int .i64 0], .int .i64 0]) ∧ W.heap.size ≤ gb ∧ Below W.heap.size W w' ∧ w'.ownsRow W.heap.size 5 1 (.slice (some ⟨gb, 0, none⟩) bs.length bs.length) bs.length (bs.map byteV) := by
  have hB1 : Below W.heap.size W (W.alloc (.cells #[.int .i64 0, .bool false, .int .i64 0, .string ⟨#[]⟩, .slice none 0 0, .slice none 0 0, .int .u64 0, .int .i64 0, .int .i64 0] 36)) := (Below.refl _ W).alloc (Nat.le_refl _) _
  have hs1 : (W.alloc (.cells #[.int .i64 0, .bool false, .int .i64 0, .string ⟨#[]⟩, .slice none 0 0, .slice none 0 0, .int .u64 0, .int .i64 0, .int .i64 0] 36)).heap.size = W.heap.size + 1 := World.size_alloc ..
  have f1 := World.alloc_heap_new W (.cells #[.int .i64 0, .bool false, .int .i64 0, .string ⟨#[]⟩, .slice none 0 0, .slice none 0 0, .int .u64 0, .int .i64 0, .int .i64 0] 36)
  have cf := find_c (g.below hB1) w hw
  rw [hi] at cf
  simp only [Option.getD_some, Option.isSome_some] at cf
  have cl := load_buf (g.below hB1) id k bs hc

  have kp : Hid (∀ w4, Below (W.alloc (.cells #[.int .i64 0, .bool false, .int .i64 0, .string ⟨#[]⟩, .slice none 0 0, .slice none 0 0, .int .u64 0, .int .i64 0, .int .i64 0] 36)).heap.size (W.alloc (.cells #[.int .i64 0, .bool false, .int .i64 0, .string ⟨#[]⟩, .slice none 0 0, .slice none 0 0, .int .u64 0, .int .i64 0, .int .i64 0] 36)) w4 → w4.heap[W.heap.size]? = some (.cells #[.int .i64 0, .bool false, .int .i64 0, .string ⟨#[]⟩, .slice none 0 0, .slice none 0 0, .int .u64 0, .int .i64 0, .int .i64 0] 36) ∧ Below W.heap.size W w4) := by
    show ∀ w4, _
    intro w4 hB4
    exact ⟨(hB4.block _ (by omega)).trans f1, hB1.trans (hB4.mono hB1.size)⟩
  clear hc
  generalize hnn : bs.length = nn at *
  go_enter Try.func30, Try.ntmps30
  go_upto_region 1 with fail
  generalize W.alloc (.cells #[.int .i64 0, .bool false, .int .i64 0, .string ⟨#[]⟩, .slice none 0 0, .slice none 0 0, .int .u64 0, .int .i64 0, .int .i64 0] 36) = W1 at *
  go_wp2_with (first | (go_at_call 41; (with_reducible refine cf.mono ?_); rintro e w' ⟨rfl, hw⟩; (have hw' := hw.symm); subst hw'; clear hw cf) | (go_at_call 53; (with_reducible refine cl.mono ?_); rintro e w4 ⟨gb, rfl, hgb, hB4, hown⟩; clear cl; (obtain ⟨fR, hBf⟩ := kp.out w4 hB4); (have HO := hid hown); (have HG := hid hgb); clear hown hgb; (have eR := fun j => cell_of_row w4 W.heap.size j _ _ _ fR); (have zR := (fun j => by simp [World.frozen?, fR] : ∀ j, w4.frozen? ⟨W.heap.size, j, none⟩ = false)); (have FR := hid fR); clear fR))
  refine bodyPost_ret (cell_ret2 rfl _ _ W.heap.size _ _ _ _ _ _ _ _ _ (0, 0) rfl (nine_set FR.out _ _ _ _ _ _ _ _ _)) rfl ?_
  subst hnn
  refine ⟨gb, rfl, by have := HG.out; omega, nine_below hBf (Nat.le_refl _) _ _ _ _ _ _ _ _ _, ?_⟩
  refine owns_on (owns_base HO.out (fun g e => by cases e; show W.heap.size ≤ gb; have := HG.out; omega)) (fun q e => ?_)
  cases e
  exact nine_far _ _ _ _ _ _ _ _ _ _ _ gb (by have := HG.out; omega)
set_option maxHeartbeats 1000000 in
theorem load_view (g : HLay W hb sb vc T H u h) (id : Nat) (k : Int) (ba p n : Nat) (hc : H[id]? = some (some (.view k ba p n))) :
    Calls Try.prog 53 #[.pointer (some ⟨hb, 0, none⟩), .int .i64 id] W fun e w' => e = .returned (.agg #[.int .i64 k, .bool true, .int .i64 0, .string ⟨#[]⟩, .slice none 0 0, .slice none 0 0, .int .u64 ba, .int .i64 p, .int .i64 n]) ∧ Below W.heap.size W w' := by
  have hidl : id < H.length := (List.getElem?_eq_some_iff.1 hc).1
  obtain ⟨b, cap, hvc, hcell, _⟩ := g.at hidl
  have c1 := g.cell 1
  simp only [List.getElem?_cons_succ, List.getElem?_cons_zero] at c1
  rw [hvc] at c1
  have k0 := hcell 0 _ hc (by omega)
  have k1 := hcell 1 _ hc (by omega)
  have k2 := hcell 2 _ hc (by omega)
  have k3 := hcell 3 _ hc (by omega)
  have k4 := hcell 4 _ hc (by omega)
  simp only [clO, Hc.cl, Cl.cells, List.getElem?_cons_succ, List.getElem?_cons_zero, Nat.add_zero] at k0 k1 k2 k3 k4
  have j0 : (0 : Int) ≤ id := by omega
  have j1 : (id : Int) < H.length := by omega
  have ho := g.ok id _ hc
  have hk : elB k > 0 := ho.1
  have cs : ∀ w, Calls Try.prog 32 #[.int .i64 k, .bool true] w fun e w' => e = .returned (.int .i64 4) ∧ w' = w := fun w => shape_view k hk w
  clear hcell
  have hB1 : Below W.heap.size W (W.alloc (.cells #[.int .i64 0, .bool false, .int .i64 0, .string ⟨#[]⟩, .slice none 0 0, .slice none 0 0, .int .u64 0, .int .i64 0, .int .i64 0] 36)) := (Below.refl _ W).alloc (Nat.le_refl _) _
  have hs1 : (W.alloc (.cells #[.int .i64 0, .bool false, .int .i64 0, .string ⟨#[]⟩, .slice none 0 0, .slice none 0 0, .int .u64 0, .int .i64 0, .int .i64 0] 36)).heap.size = W.heap.size + 1 := World.size_alloc ..
  have e1 := World.cell?_alloc_new W #[.int .i64 0, .bool false, .int .i64 0, .string ⟨#[]⟩, .slice none 0 0, .slice none 0 0, .int .u64 0, .int .i64 0, .int .i64 0] 36
  have f1 := World.alloc_heap_new W (.cells #[.int .i64 0, .bool false, .int .i64 0, .string ⟨#[]⟩, .slice none 0 0, .slice none 0 0, .int .u64 0, .int .i64 0, .int .i64 0] 36)
  go_enter Try.func53, Try.ntmps53
  go_upto_region 1 with fail
  have c1' := below_cell hB1 c1
  have k0' := below_cell hB1 k0
  have k1' := below_cell hB1 k1
  have k2' := below_cell hB1 k2
  have k3' := below_cell hB1 k3
  have k4' := below_cell hB1 k4
  generalize hW1 : W.alloc (.cells #[.int .i64 0, .bool false, .int .i64 0, .string ⟨#[]⟩, .slice none 0 0, .slice none 0 0, .int .u64 0, .int .i64 0, .int .i64 0] 36) = W1 at *
  clear c1 k0 k1 k2 k3 k4 hW1
  go_upto_region 3 with fail
  have hB3 : Below W1.heap.size W1 ((W1.alloc (.cells #[.int .i64 k, .bool true, .int .u64 ba, .int .i64 p, .int .i64 n] 84)).alloc (.cells #[.int .i64 k, .bool true, .int .i64 0, .string ⟨#[]⟩, .slice none 0 0, .slice none 0 0, .int .u64 ba, .int .i64 p, .int .i64 n] 36)) := ((Below.refl _ W1).alloc (Nat.le_refl _) _).alloc (by rw [World.size_alloc]; omega) _
  have hs2 : (W1.alloc (.cells #[.int .i64 k, .bool true, .int .u64 ba, .int .i64 p, .int .i64 n] 84)).heap.size = W.heap.size + 2 := by rw [World.size_alloc, hs1]
  have hs3 : ((W1.alloc (.cells #[.int .i64 k, .bool true, .int .u64 ba, .int .i64 p, .int .i64 n] 84)).alloc (.cells #[.int .i64 k, .bool true, .int .i64 0, .string ⟨#[]⟩, .slice none 0 0, .slice none 0 0, .int .u64 ba, .int .i64 p, .int .i64 n] 36)).heap.size = W.heap.size + 3 := by rw [World.size_alloc, hs2]
  have eO := World.cell?_alloc_new (W1.alloc (.cells #[.int .i64 k, .bool true, .int .u64 ba, .int .i64 p, .int .i64 n] 84)) #[.int .i64 k, .bool true, .int .i64 0, .string ⟨#[]⟩, .slice none 0 0, .slice none 0 0, .int .u64 ba, .int .i64 p, .int .i64 n] 36
  have eC := World.cell?_alloc_new W1 #[.int .i64 k, .bool true, .int .u64 ba, .int .i64 p, .int .i64 n] 84
  have eC3 : ∀ j, ((W1.alloc (.cells #[.int .i64 k, .bool true, .int .u64 ba, .int .i64 p, .int .i64 n] 84)).alloc (.cells #[.int .i64 k, .bool true, .int .i64 0, .string ⟨#[]⟩, .slice none 0 0, .slice none 0 0, .int .u64 ba, .int .i64 p, .int .i64 n] 36)).cell? ⟨W.heap.size + 1, j, none⟩ = #[Value.int .i64 k, .bool true, .int .u64 ba, .int .i64 p, .int .i64 n][j]? := by
    intro j
    rw [← hs1, ← eC j]
    exact World.cell?_of_block (Below.heap_alloc _ _ _ (by show W1.heap.size < _; rw [World.size_alloc]; omega))
  have fO := World.alloc_heap_new (W1.alloc (.cells #[.int .i64 k, .bool true, .int .u64 ba, .int .i64 p, .int .i64 n] 84)) (.cells #[.int .i64 k, .bool true, .int .i64 0, .string ⟨#[]⟩, .slice none 0 0, .slice none 0 0, .int .u64 ba, .int .i64 p, .int .i64 n] 36)
  rw [hs2, show W.heap.size + 2 = W.heap.size + 1 + 1 from rfl] at eO fO
  generalize (W1.alloc (.cells #[.int .i64 k, .bool true, .int .u64 ba, .int .i64 p, .int .i64 n] 84)).alloc (.cells #[.int .i64 k, .bool true, .int .i64 0, .string ⟨#[]⟩, .slice none 0 0, .slice none 0 0, .int .u64 ba, .int .i64 p, .int .i64 n] 36) = W3 at *
  have eR3 : ∀ j, W3.cell? ⟨W.heap.size, j, none⟩ = #[.int .i64 0, .bool false, .int .i64 0, .string ⟨#[]⟩, .slice none 0 0, .slice none 0 0, .int .u64 0, .int .i64 0, .int .i64 0][j]? := by
    intro j
    rw [World.cell?_of_block (hB3.block W.heap.size (by omega))]
    exact e1 j
  have hBW : Below W.heap.size W W3 := hB1.trans (hB3.mono hB1.size)
  have g3 := g.below hBW
  have fR : W3.heap[W.heap.size]? = some (.cells #[.int .i64 0, .bool false, .int .i64 0, .string ⟨#[]⟩, .slice none 0 0, .slice none 0 0, .int .u64 0, .int .i64 0, .int .i64 0] 36) := (hB3.block W.heap.size (by omega)).trans f1
  have HBW := hid hBW
  have eR := fun j => cell_of_row W3 W.heap.size j _ _ _ fR
  have zR : ∀ j, W3.frozen? ⟨W.heap.size, j, none⟩ = false := fun j => by simp [World.frozen?, fR]
  have FR := hid fR
  clear fO eR3 fR g3 e1 c1' k0' k1' k2' k3' k4' f1 g ho hc hBW hB1 hB3 hs1 hs2 hs3 j0 j1 hk
  go_wp2_with (go_at_call 32; (with_reducible refine (cs _).mono ?_); rintro e w' ⟨rfl, hw⟩; (have hw' := hw.symm); subst hw'; clear hw)
  refine bodyPost_ret (cell_ret rfl _ _ W.heap.size _ _ _ _ _ _ _ _ _ (0, 0) rfl (nine_set FR.out _ _ _ _ _ _ _ _ _)) rfl ?_
  exact ⟨rfl, nine_below HBW.out (Nat.le_refl _) _ _ _ _ _ _ _ _ _⟩
theorem get_view (g : HLay W hb sb vc T H u h) (w : Nat) (hw : w < 18446744073709551616) (id : Nat) (hi : hit H w = some id) (k : Int) (ba p n : Nat) (hc : H[id]? = some (some (.view k ba p n))) :
    Calls Try.prog 30 #[.pointer (some ⟨hb, 0, none⟩), .int .u64 w] W fun e w' => e = .returned (.tuple #[.agg #[.int .i64 k, .bool true, .int .i64 0, .string ⟨#[]⟩, .slice none 0 0, .slice none 0 0, .int .u64 ba, .int .i64 p, .int .i64 n], .int .i64 0]) ∧ Below W.heap.size W w' :=
  get_c g w hw id hi k true 0 ⟨#[]⟩ none none 0 0 0 0 ba p n (fun w1 hB => load_view (g.below hB) id k ba p n hc)
end
end Go.Proofs.Ytfbncmjocaechaa.W
/- slices.AppendSeq over a row's words; load and Get, of a row. -/
namespace Go.Proofs.Ytfbncmjocaechaa.W
open Go.ChangeShapes Go.WideShapes Go.RowKit Go.Shelf
set_option linter.unusedVariables false
/-- an append in a round -/
theorem gi_append {P : Program} {F : Fence} {n : Nat} {L : Option Nat} (w : World) {o : Oper} {a : Act} {K : Act → World → Prop} {Q : Exit → Act → World → Prop} (s x : Operand) (t tn : TypeId)
    (ho : o.op = .call { callee := .builtin .append, args := #[s, x], argTypes := #[t, tn] }) (vs vx : Value) (hs : a.eval s = vs) (hx : a.eval x = vx)
    (v' : Value) (w' : World) (hr : (Builtin.append_ #[t, tn] o.type #[vs, vx]).run P w = .ok v' w') (h : K (a.put o.dst v') w') : o.uponIn F n P a K Q ((Oper.semAt L a.eval o).run P w) := by
  rw [Oper.semAt_eq _ _ _ (fun c e => by rw [ho] at e; cases e)]
  unfold execOp
  simp only [ho, resolve, invoke, builtin, Sem.run_bind, Sem.run_pure, Result.andThen_ok, List.map_toArray, List.map_cons, List.map_nil, hs, hx, hr]
  exact h
/-- a word is put behind a row of words -/
theorem append_one (W : World) (ty : TypeId) (v : Value) (n : Nat) (xs : List Value) {B0 : Nat} (hown : W.ownsRow B0 22 1 v n xs) (x : Nat) (hn : n ≤ 2000000) : ∃ v' w', (Builtin.append_ #[30, 30] ty #[v, .slice (some ⟨W.heap.size, 0, none⟩) 1 1]).run Try.prog (W.alloc (.cells #[.int .u64 (x : Nat)] 22)) = .ok v' w' ∧ w'.ownsRow 0 22 1 v' (n + 1) (xs ++ [.int .u64 (x : Nat)]) ∧ (W.alloc (.cells #[.int .u64 (x : Nat)] 22)).grownBy w' v.ownBlock ∧ (∀ k, v'.ownBlock = some k → v.ownBlock = some k ∨ ((W.alloc (.cells #[.int .u64 (x : Nat)] 22)).heap.size ≤ k ∧ k < w'.heap.size)) := by
  obtain ⟨i0, hi, hz0, hz1, hz2⟩ := info_parts infoW
  have e0 := World.cell?_alloc_new W #[.int .u64 (x : Nat)] 22
  have ho := hown.alloc (.cells #[.int .u64 (x : Nat)] 22)
  exact append_at (P := Try.prog) (W.alloc (.cells #[.int .u64 (x : Nat)] 22)) 30 ty 22 i0 (.int .u64 0) 1 8 underW hi hz0 hz1 hz2 rfl (by omega) v n xs (owns_base ho (fun _ _ => Nat.zero_le _)) ⟨W.heap.size, 0, none⟩ 1 1 [.int .u64 (x : Nat)] (by simp) (by
    intro j y hj
    have hj0 : j = 0 := by have := (List.getElem?_eq_some_iff.1 hj).1; simp at this; exact this
    subst hj0
    simp at hj
    subst hj
    have e1 : ((⟨W.heap.size, 0, none⟩ : Addr).add 0) = ⟨W.heap.size, 0, none⟩ := by unfold Addr.add; split <;> simp_all
    rw [e1, e0 0]; rfl) (by intro y hy; simp at hy; rw [hy]; rfl) (by omega) (by omega) (by omega)
section
variable {W W' : World} {hb sb : Nat} {vc : Value} {T : Nat → Prop} {H : List (Option Hc)} {u h : Nat}
/-- along AppendSeq: i words are there -/
structure AqI (B0 : Nat) (W : World) (hb sb : Nat) (vc : Value) (T : Nat → Prop) (H : List (Option Hc)) (u h id Bh Bi Bs : Nat) (ws : List Nat) (i : Nat) (W' : World) : Prop where
  lay : HLay W' hb sb vc T H u h
  b0 : Boxed W' Bh 23 (.pointer (some ⟨hb, 0, none⟩))
  b1 : Boxed W' Bi 3 (.int .i64 id)
  s : ∃ v, Boxed W' Bs 30 v ∧ W'.ownsRow B0 22 1 v i ((ws.take i).map (fun x => .int .u64 (x : Nat)))
  bel : Below B0 W W'
theorem AqI.upd {B0 id Bh Bi Bs i : Nat} {ws : List Nat} {w2 : World} {S : Nat → Prop} (hlo : hb < B0 ∧ (∀ k, vc.ownBlock = some k → k < B0) ∧ ∀ k, T k → k < B0) (q : AqI B0 W hb sb vc T H u h id Bh Bi Bs ws i W') (hu : Upd S W' w2) (hS : ∀ k, S k → B0 ≤ k) (h0 : ¬ S Bh) (h1 : ¬ S Bi) (h2 : ¬ S Bs) (h3 : ∀ v, Boxed W' Bs 30 v → ∀ k, v.ownBlock = some k → ¬ S k) (hz : B0 ≤ W.heap.size) : AqI B0 W hb sb vc T H u h id Bh Bi Bs ws i w2 := by
  obtain ⟨v, hv1, hv2⟩ := q.s
  have z := q.bel.size
  refine ⟨q.lay.upd hu (fun e => by have := hS _ e; omega) (fun k e e2 => by have := hlo.2.1 k e; have := hS _ e2; omega) (fun k e e2 => by have := hlo.2.2 k e; have := hS _ e2; omega), box_of (hu.block _ q.b0.lt h0) q.b0, box_of (hu.block _ q.b1.lt h1) q.b1, ⟨v, box_of (hu.block _ hv1.lt h2) hv1, owns_on hv2 (fun k e => hu.block k (hv2.lt k e).2 (h3 v hv1 k e))⟩, q.bel.trans (hu.below (by omega) hS)⟩
set_option maxRecDepth 100000 in
set_option maxHeartbeats 1000000 in
theorem appendSeq_c (g : HLay W hb sb vc T H u h) (id : Nat) (ws : List Nat) (hrow : H[id]? = some (some (.row ws))) (hl : ws.length ≤ 1048576) (h64 : ∀ x ∈ ws, x < 18446744073709551616) (B0 : Nat) (hz : B0 ≤ W.heap.size) (hlo : hb < B0 ∧ (∀ k, vc.ownBlock = some k → k < B0) ∧ ∀ k, T k → k < B0) (Bh Bi : Nat) (x0 : Boxed W Bh 23 (.pointer (some ⟨hb, 0, none⟩))) (x1 : Boxed W Bi 3 (.int .i64 id)) (hBh : B0 ≤ Bh) (hBi : B0 ≤ Bi) (v0 : Value) (hown : W.ownsRow B0 22 1 v0 0 []) :
    Calls Try.prog 76 #[v0, .func (.func 63) #[] #[.pointer (some ⟨Bh, 0, none⟩), .pointer (some ⟨Bi, 0, none⟩)]] W fun e w' => ∃ v, e = .returned v ∧ Below B0 W w' ∧ w'.ownsRow B0 22 1 v ws.length (ws.map (fun x => .int .u64 (x : Nat))) := by
  obtain ⟨ov, cv, hv0⟩ := slice_of (owns_base hown (b' := 0) (fun _ _ => Nat.zero_le _))
  subst hv0
  refine (callsIn_wide (n := 9)).1 ?_
  refine callsIn_of_wp_marks Try.func76 rfl trivial ?_ rfl
  refine wpIn_wide.2 ?_
  simp only [Try.ntmps76, List.size_toArray, List.length_cons, List.length_nil, Nat.reduceAdd, Nat.reduceSub, Array.replicate_succ, Array.replicate_zero, List.push_toArray, List.append_toArray, List.nil_append, List.cons_append]
  go_wp2
  have bA : Below W.heap.size W (W.alloc (.cells #[.slice ov 0 cv] 30)) := (Below.refl _ W).alloc (Nat.le_refl _) _
  have q0 : AqI B0 W hb sb vc T H u h id Bh Bi W.heap.size ws 0 (W.alloc (.cells #[.slice ov 0 cv] 30)) := ⟨g.below bA, box_of (bA.block _ x0.lt) x0, box_of (bA.block _ x1.lt) x1, ⟨_, Boxed.new _ _ _, by simpa using hown.alloc _⟩, bA.mono hz⟩
  have zA : (W.alloc (.cells #[.slice ov 0 cv] 30)).heap.size = W.heap.size + 1 := World.size_alloc ..
  have ltB := x0.lt
  have ltI := x1.lt
  generalize W.alloc (.cells #[.slice ov 0 cv] 30) = WA at *
  refine words_law (hb := hb) (sb := sb) (vc := vc) (T := T) (u := u) (h := h) (pt := 7) (W0 := WA) (Bh := Bh) (Bi := Bi) (id := id) ws hrow rfl (fun i W' => AqI B0 W hb sb vc T H u h id Bh Bi W.heap.size ws i W' ∧ ∀ v, Boxed W' W.heap.size 30 v → ∀ k, v.ownBlock = some k → k ≠ WA.heap.size ∧ k ≠ WA.heap.size + 1) (fun _ _ => False) ?hL ?hI (fun c W W' h _ => h) ?h0 5 ?assign ?body ?done (fun c W h => h.elim)
  case h0 =>
    refine ⟨q0, fun v hv k e => ?_⟩
    obtain ⟨v', h1, h2⟩ := q0.s
    have e1 : v = v' := by
      unfold Boxed at hv h1
      rw [hv] at h1
      simpa using h1
    subst e1
    have := (h2.lt k e).2
    omega
  case hL =>
    rintro i W' ⟨q, _⟩
    exact ⟨q.lay, q.b0.cell, q.b1.cell⟩
  case hI =>
    rintro i Wa Wb ⟨q, hq⟩ hu
    refine ⟨q.upd hlo hu (fun k e => by omega) (by omega) (by omega) (by omega) (fun v hv k e => (hq v hv k e).2) hz, fun v hv k e => ?_⟩
    have hv' : Boxed Wa W.heap.size 30 v := by
      obtain ⟨v', h1, _⟩ := q.s
      exact (hu.block _ h1.lt (by omega)).symm.trans hv
    exact hq v hv' k e
  case assign =>
    intro L x W' K hK
    gi_wp2_with (simp only [Oper.semAt]; go_simp)
    exact hK
  case done =>
    rintro W' ⟨q, hq⟩ hD
    obtain ⟨v, hv1, hv2⟩ := q.s
    rw [List.take_of_length_le (Nat.le_refl _)] at hv2
    have c2 := hv1.cell
    obtain ⟨o9, c9, e9⟩ := slice_of (owns_base hv2 (b' := 0) (fun _ _ => Nat.zero_le _))
    subst e9
    have Q := hid q
    have HV := hid hv2
    have hkn := hid (hq _ hv1)
    clear q hv1 hv2 hq
    generalize hnn : ws.length = nn at *
    go_wp2
    refine ⟨by simp, .inl ⟨_, _, rfl, run_takeDeferred hD, ?_⟩⟩
    subst hnn
    have hu : Upd (fun k => k = WA.heap.size) W' (W'.putObj WA.heap.size (.deferred none)) := upd_put (S := fun k => k = WA.heap.size) rfl _
    refine ⟨_, results_tmp rfl _ _ _, _, rfl, Q.out.bel.trans (hu.below (by have := Q.out.bel.size; omega) (fun k e => by omega)), ?_⟩
    exact owns_on HV.out (fun k e => hu.block k (HV.out.lt k e).2 (hkn.out k e).1)
  case body =>
    rintro L i hi W' hLe ⟨q, hq⟩ hs hr
    simp only [wAct, List.setIfInBounds_toArray, List.set_cons_succ, List.set_cons_zero]
    obtain ⟨v, hv1, hv2⟩ := q.s
    obtain ⟨o9, c9, e9⟩ := slice_of (owns_base hv2 (b' := 0) (fun _ _ => Nat.zero_le _))
    subst e9
    have hx64 := h64 _ (List.getElem_mem hi)
    have tk : Hid (ws.take (i + 1) = ws.take i ++ [ws[i]]) := hid (List.take_succ_eq_append_getElem hi)
    generalize ws[i] = x at *
    have hB1 : Below W'.heap.size W' (W'.alloc (.cells #[.int .u64 (x : Nat)] 22)) := (Below.refl _ W').alloc (Nat.le_refl _) _
    have z1 : (W'.alloc (.cells #[.int .u64 (x : Nat)] 22)).heap.size = W'.heap.size + 1 := World.size_alloc ..
    obtain ⟨v', w', hrun, ho', hg, hk⟩ := append_one W' 30 (.slice o9 i c9) i _ hv2 x (by omega)
    have hU1 : Upd (fun k => (Value.slice o9 i c9).ownBlock = some k) (W'.alloc (.cells #[.int .u64 (x : Nat)] 22)) w' := (Upd.refl _ _).grown hg (fun k e => .inl e)
    have hU : Upd (fun k => (Value.slice o9 i c9).ownBlock = some k) W' w' := (Upd.of_below hB1).trans' hU1
    have c2 := hv1.cell
    obtain ⟨o8, c8, e8⟩ := slice_of (owns_base ho' (b' := 0) (fun _ _ => Nat.zero_le _))
    subst e8
    have hne : ∀ k, (Value.slice o9 i c9).ownBlock = some k → k ≠ W.heap.size ∧ k ≠ Bh ∧ k ≠ Bi := fun k e => ⟨fun e2 => own_ne (owns_base hv2 (b' := 0) (fun _ _ => Nat.zero_le _)) hv1 (by decide) (by rw [e, e2]), fun e2 => own_ne (owns_base hv2 (b' := 0) (fun _ _ => Nat.zero_le _)) q.b0 (by decide) (by rw [e, e2]), fun e2 => own_ne (owns_base hv2 (b' := 0) (fun _ _ => Nat.zero_le _)) q.b1 (by decide) (by rw [e, e2])⟩
    have bx : Boxed w' W.heap.size 30 (.slice o9 i c9) := box_of (hU.block _ hv1.lt (fun e => (hne _ e).1 rfl)) hv1
    have cw := bx.cell
    have fw := bx.frozen
    gi_wp2_with (first | (with_reducible refine gi_append _ (.tmp 8) (.tmp 10) 30 30 rfl _ _ (by simp [Act.eval]) (by simp [Act.eval]) _ _ hrun ?_) | (simp only [Oper.semAt]; go_simp))
    have hq1 := hq _ hv1
    have hlt := fun k e => hv2.lt k e
    have hz' := q.bel.size
    have z2 := hU1.size
    have hloc : ∀ k, (Value.slice o8 (i + 1) c8).ownBlock = some k → k ≠ W.heap.size ∧ k ≠ WA.heap.size ∧ k ≠ WA.heap.size + 1 ∧ B0 ≤ k := by
      intro k e
      rcases hk k e with e | e
      · exact ⟨(hne k e).1, (hq1 k e).1, (hq1 k e).2, (hlt k e).1⟩
      · exact ⟨by omega, by omega, by omega, by omega⟩
    have hU2 : Upd (fun k => (Value.slice o9 i c9).ownBlock = some k ∨ k = W.heap.size) W' (w'.setCell ⟨W.heap.size, 0, none⟩ (.slice o8 (i + 1) c8)) :=
      (Upd.setCell (S := fun k => (Value.slice o9 i c9).ownBlock = some k ∨ k = W.heap.size) ⟨hU.os, hU.tape, hU.output, hU.size, fun k hk2 hn => hU.block k hk2 (fun e => hn (.inl e))⟩ (p := ⟨W.heap.size, 0, none⟩) (.inl (.inr rfl)) _)
    have bx2 : Boxed (w'.setCell ⟨W.heap.size, 0, none⟩ (.slice o8 (i + 1) c8)) W.heap.size 30 (.slice o8 (i + 1) c8) := heap_set (c := [.slice o9 i c9]) bx 0 (.slice o8 (i + 1) c8)
    refine ⟨⟨hU2.block _ (by omega) ?_, hU2.block _ (by omega) ?_⟩, ⟨q.lay.upd hU2 ?_ ?_ ?_, box_of (hU2.block _ q.b0.lt ?_) q.b0, box_of (hU2.block _ q.b1.lt ?_) q.b1, ⟨_, bx2, ?_⟩, q.bel.trans (hU2.below (by omega) ?_)⟩, ?_⟩
    · rintro (e | e)
      · exact (hq1 _ e).2 (by omega)
      · omega
    · rintro (e | e)
      · exact (hq1 _ e).1 (by omega)
      · omega
    · rintro (e | e)
      · have := (hlt _ e).1; omega
      · omega
    · rintro k e1 (e | e)
      · have := (hlt _ e).1; have := hlo.2.1 k e1; omega
      · have := hlo.2.1 k e1; omega
    · rintro k e1 (e | e)
      · have := (hlt _ e).1; have := hlo.2.2 k e1; omega
      · have := hlo.2.2 k e1; omega
    · rintro (e | e)
      · exact (hne _ e).2.1 rfl
      · omega
    · rintro (e | e)
      · exact (hne _ e).2.2 rfl
      · omega
    · rw [tk.out, List.map_append]
      exact owns_on (owns_base ho' (fun k e => (hloc k e).2.2.2)) (fun k e => Below.heap_setCell _ _ _ _ (hloc k e).1)
    · rintro k (e | e)
      · exact (hlt k e).1
      · omega
    · intro v hv k e
      have e1 : v = .slice o8 (i + 1) c8 := by
        unfold Boxed at hv bx2
        rw [hv] at bx2
        simpa using bx2
      subst e1
      exact ⟨(hloc k e).2.1, (hloc k e).2.2.1⟩
end
end Go.Proofs.Ytfbncmjocaechaa.W
/- Package heap: load and Get, of a row. -/
namespace Go.Proofs.Ytfbncmjocaechaa.W
open Go.ChangeShapes Go.WideShapes Go.RowKit Go.Shelf
set_option linter.unusedVariables false
section
variable {W W' : World} {hb sb : Nat} {vc : Value} {T : Nat → Prop} {H : List (Option Hc)} {u h : Nat}
theorem make_cap (w : World) (B0 n : Nat) (hn : n ≤ 1048576) (hB : B0 ≤ w.heap.size) : ∃ w', (Instr.makeSlice 30 (.int .i64 0) (.int .i64 (n : Int))).run Try.prog w = .ok (.slice (some ⟨w.heap.size, 0, none⟩) 0 n) w' ∧ w'.ownsRow B0 22 1 (.slice (some ⟨w.heap.size, 0, none⟩) 0 n) 0 [] ∧ Below w.heap.size w w' := by
  obtain ⟨i0, hi, hz0, hz1, hz2⟩ := info_parts infoW
  obtain ⟨w', h1, h2, h3⟩ := run_makeSlice_owned (P := Try.prog) w B0 30 22 i0 (.int .u64 0) 1 underW hi hz0 hz1 .i64 .i64 n (by omega) (by rw [hz2]; omega) (by simp [maxLen]; omega) hB
  exact ⟨w', h1, h2, ((Upd.refl (fun _ => False) w).grown h3 (fun k e => by cases e)).below (Nat.le_refl _) (fun k e => e.elim)⟩
/-- AppendSeq behind words and make, in whatever order they came -/
theorem seq_c (g : HLay W hb sb vc T H u h) (id : Nat) (ws : List Nat) (hrow : H[id]? = some (some (.row ws))) {w1 w2 : World} (b2 : Below W.heap.size W w2) (Bh Bi : Nat) (x0 : Boxed w2 Bh 23 (.pointer (some ⟨hb, 0, none⟩))) (x1 : Boxed w2 Bi 3 (.int .i64 id)) (hBh : W.heap.size ≤ Bh) (hBi : W.heap.size ≤ Bi) (v0 : Value) (hown : w2.ownsRow W.heap.size 22 1 v0 0 []) :
    Calls Try.prog 76 #[v0, .func (.func 63) #[] #[.pointer (some ⟨Bh, 0, none⟩), .pointer (some ⟨Bi, 0, none⟩)]] w2 fun e w' => ∃ o cap, e = .returned (.slice o ws.length cap) ∧ Below W.heap.size W w' ∧ w'.ownsRow W.heap.size 22 1 (.slice o ws.length cap) ws.length (ws.map (fun x => .int .u64 (x : Nat))) := by
  have ok := g.ok id _ hrow
  refine (appendSeq_c (g.below b2) id ws hrow ok.2 ok.1 W.heap.size b2.size ⟨g.hlt, g.clt, g.tlt⟩ Bh Bi x0 x1 hBh hBi v0 hown).mono ?_
  rintro e w' ⟨v, rfl, hB, ho⟩
  obtain ⟨o, c, rfl⟩ := slice_of (owns_base ho (b' := 0) (fun _ _ => Nat.zero_le _))
  exact ⟨o, c, rfl, b2.trans hB, ho⟩
set_option maxRecDepth 100000 in
set_option maxHeartbeats 2000000 in
theorem load_row (g : HLay W hb sb vc T H u h) (id : Nat) (ws : List Nat) (hc : H[id]? = some (some (.row ws))) :
    Calls Try.prog 53 #[.pointer (some ⟨hb, 0, none⟩), .int .i64 id] W fun e w' => ∃ o cap, e = .returned (.agg #[.int .i64 9, .bool false, .int .i64 0, .string ⟨#[]⟩, .slice none 0 0, .slice o ws.length cap, .int .u64 0, .int .i64 0, .int .i64 0]) ∧ Below W.heap.size W w' ∧ w'.ownsRow (W.heap.size + 1) 22 1 (.slice o ws.length cap) ws.length (ws.map (fun x => .int .u64 (x : Nat))) := by
  have hidl : id < H.length := (List.getElem?_eq_some_iff.1 hc).1
  obtain ⟨b, cap, hvc, hcell, _⟩ := g.at hidl
  have c1 := g.cell 1
  simp only [List.getElem?_cons_succ, List.getElem?_cons_zero] at c1
  rw [hvc] at c1
  have k0 := hcell 0 _ hc (by omega)
  have k1 := hcell 1 _ hc (by omega)
  have k2 := hcell 2 _ hc (by omega)
  have k3 := hcell 3 _ hc (by omega)
  have k4 := hcell 4 _ hc (by omega)
  simp only [clO, Hc.cl, Cl.cells, List.getElem?_cons_succ, List.getElem?_cons_zero, Nat.add_zero] at k0 k1 k2 k3 k4
  have j0 : (0 : Int) ≤ id := by omega
  have j1 : (id : Int) < H.length := by omega
  have ho := g.ok id _ hc
  have cs : ∀ w, Calls Try.prog 32 #[.int .i64 9, .bool false] w fun e w' => e = .returned (.int .i64 5) ∧ w' = w := fun w => shape_c 9 false w
  clear hcell
  have hB1 : Below W.heap.size W (W.alloc (.cells #[.int .i64 0, .bool false, .int .i64 0, .string ⟨#[]⟩, .slice none 0 0, .slice none 0 0, .int .u64 0, .int .i64 0, .int .i64 0] 36)) := (Below.refl _ W).alloc (Nat.le_refl _) _
  have hs1 : (W.alloc (.cells #[.int .i64 0, .bool false, .int .i64 0, .string ⟨#[]⟩, .slice none 0 0, .slice none 0 0, .int .u64 0, .int .i64 0, .int .i64 0] 36)).heap.size = W.heap.size + 1 := World.size_alloc ..
  have e1 := World.cell?_alloc_new W #[.int .i64 0, .bool false, .int .i64 0, .string ⟨#[]⟩, .slice none 0 0, .slice none 0 0, .int .u64 0, .int .i64 0, .int .i64 0] 36
  have f1 := World.alloc_heap_new W (.cells #[.int .i64 0, .bool false, .int .i64 0, .string ⟨#[]⟩, .slice none 0 0, .slice none 0 0, .int .u64 0, .int .i64 0, .int .i64 0] 36)
  go_enter Try.func53, Try.ntmps53
  go_upto_region 1 with fail
  have c1' := below_cell hB1 c1
  have k0' := below_cell hB1 k0
  have k1' := below_cell hB1 k1
  have k2' := below_cell hB1 k2
  have k3' := below_cell hB1 k3
  have k4' := below_cell hB1 k4
  generalize hW1 : W.alloc (.cells #[.int .i64 0, .bool false, .int .i64 0, .string ⟨#[]⟩, .slice none 0 0, .slice none 0 0, .int .u64 0, .int .i64 0, .int .i64 0] 36) = W1 at *
  clear c1 k0 k1 k2 k3 k4 hW1
  go_upto_region 3 with fail
  have hB3 : Below W1.heap.size W1 ((W1.alloc (.cells #[.int .i64 9, .bool false, .int .u64 0, .int .i64 0, .int .i64 0] 84)).alloc (.cells #[.int .i64 9, .bool false, .int .i64 0, .string ⟨#[]⟩, .slice none 0 0, .slice none 0 0, .int .u64 0, .int .i64 0, .int .i64 0] 36)) := ((Below.refl _ W1).alloc (Nat.le_refl _) _).alloc (by rw [World.size_alloc]; omega) _
  have hs2 : (W1.alloc (.cells #[.int .i64 9, .bool false, .int .u64 0, .int .i64 0, .int .i64 0] 84)).heap.size = W.heap.size + 2 := by rw [World.size_alloc, hs1]
  have hs3 : ((W1.alloc (.cells #[.int .i64 9, .bool false, .int .u64 0, .int .i64 0, .int .i64 0] 84)).alloc (.cells #[.int .i64 9, .bool false, .int .i64 0, .string ⟨#[]⟩, .slice none 0 0, .slice none 0 0, .int .u64 0, .int .i64 0, .int .i64 0] 36)).heap.size = W.heap.size + 3 := by rw [World.size_alloc, hs2]
  have eO := World.cell?_alloc_new (W1.alloc (.cells #[.int .i64 9, .bool false, .int .u64 0, .int .i64 0, .int .i64 0] 84)) #[.int .i64 9, .bool false, .int .i64 0, .string ⟨#[]⟩, .slice none 0 0, .slice none 0 0, .int .u64 0, .int .i64 0, .int .i64 0] 36
  have eC := World.cell?_alloc_new W1 #[.int .i64 9, .bool false, .int .u64 0, .int .i64 0, .int .i64 0] 84
  have eC3 : ∀ j, ((W1.alloc (.cells #[.int .i64 9, .bool false, .int .u64 0, .int .i64 0, .int .i64 0] 84)).alloc (.cells #[.int .i64 9, .bool false, .int .i64 0, .string ⟨#[]⟩, .slice none 0 0, .slice none 0 0, .int .u64 0, .int .i64 0, .int .i64 0] 36)).cell? ⟨W.heap.size + 1, j, none⟩ = #[Value.int .i64 9, .bool false, .int .u64 0, .int .i64 0, .int .i64 0][j]? := by
    intro j
    rw [← hs1, ← eC j]
    exact World.cell?_of_block (Below.heap_alloc _ _ _ (by show W1.heap.size < _; rw [World.size_alloc]; omega))
  have fO := World.alloc_heap_new (W1.alloc (.cells #[.int .i64 9, .bool false, .int .u64 0, .int .i64 0, .int .i64 0] 84)) (.cells #[.int .i64 9, .bool false, .int .i64 0, .string ⟨#[]⟩, .slice none 0 0, .slice none 0 0, .int .u64 0, .int .i64 0, .int .i64 0] 36)
  rw [hs2, show W.heap.size + 2 = W.heap.size + 1 + 1 from rfl] at eO fO
  generalize (W1.alloc (.cells #[.int .i64 9, .bool false, .int .u64 0, .int .i64 0, .int .i64 0] 84)).alloc (.cells #[.int .i64 9, .bool false, .int .i64 0, .string ⟨#[]⟩, .slice none 0 0, .slice none 0 0, .int .u64 0, .int .i64 0, .int .i64 0] 36) = W3 at *
  have eR3 : ∀ j, W3.cell? ⟨W.heap.size, j, none⟩ = #[.int .i64 0, .bool false, .int .i64 0, .string ⟨#[]⟩, .slice none 0 0, .slice none 0 0, .int .u64 0, .int .i64 0, .int .i64 0][j]? := by
    intro j
    rw [World.cell?_of_block (hB3.block W.heap.size (by omega))]
    exact e1 j
  have hBW : Below W.heap.size W W3 := hB1.trans (hB3.mono hB1.size)
  have g3 := g.below hBW
  have fR : W3.heap[W.heap.size]? = some (.cells #[.int .i64 0, .bool false, .int .i64 0, .string ⟨#[]⟩, .slice none 0 0, .slice none 0 0, .int .u64 0, .int .i64 0, .int .i64 0] 36) := (hB3.block W.heap.size (by omega)).trans f1
  have c0 := g3.cell 0
  simp only [List.getElem?_cons_zero] at c0
  have hlen : (Hc.row ws).bytes.length = 8 * ws.length := row_len ws
  have hl : ws.length ≤ 1048576 := ho.2
  have cb := fun w hB => bytes_c ((g3.below hB : HLay w hb sb vc T H u h)) id _ hc
  rw [hlen] at cb
  have cq := fun (w2 : World) (b2 : Below W3.heap.size W3 w2) => seq_c (w1 := W3) g3 id ws hc b2
  have kp : Hid (∀ w4, Below W3.heap.size W3 w4 → w4.heap[W.heap.size]? = some (.cells #[.int .i64 0, .bool false, .int .i64 0, .string ⟨#[]⟩, .slice none 0 0, .slice none 0 0, .int .u64 0, .int .i64 0, .int .i64 0] 36) ∧ w4.heap[W.heap.size + 1 + 1]? = some (.cells #[.int .i64 9, .bool false, .int .i64 0, .string ⟨#[]⟩, .slice none 0 0, .slice none 0 0, .int .u64 0, .int .i64 0, .int .i64 0] 36)) := by
    show ∀ w4, _
    intro w4 hB4
    exact ⟨(hB4.block _ (by omega)).trans fR, (hB4.block _ (by omega)).trans fO⟩
  have cw := fun w => words_c w hb id
  have q8 : Int.tdiv ((8 * ws.length : Nat) : Int) 8 = ((ws.length : Nat) : Int) := by rw [Int.tdiv_eq_ediv_of_nonneg (by omega)]; omega
  have bD : Below W3.heap.size W3 W3.drew := ⟨rfl, rfl, rfl, Nat.le_refl _, fun _ _ => rfl⟩
  clear eR3 fR fO e1 c1' k0' k1' k2' k3' k4' f1
  go_upto_region 12 with (go_at_call 32; (with_reducible refine (cs _).mono ?_); rintro e w' ⟨rfl, hw⟩; (have hw' := hw.symm); subst hw'; clear hw)
  have HBW := hid hBW
  have HS3 := hid hs3
  have HL := hid hl
  clear g g3 ho hc hBW hB1 hB3 hs1 hs2 hs3 j0 j1 hlen hl
  generalize hm8 : ((8 * ws.length : Nat) : Int) = m8 at *
  clear hm8
  generalize hnn : ws.length = nn at *
  have wnn : IntKind.i64.wrap (nn : Int) = (nn : Int) := by have := HL.out; rw [IntKind.wrap_i64]; omega
  have fin : Hid (∀ (w5 : World) (o : Option Addr) (cap : Nat), Below W3.heap.size W3 w5 → w5.ownsRow W3.heap.size 22 1 (.slice o nn cap) nn (ws.map (fun x => .int .u64 (x : Nat))) → w5.heap[W.heap.size]? = some (.cells #[.int .i64 0, .bool false, .int .i64 0, .string ⟨#[]⟩, .slice none 0 0, .slice none 0 0, .int .u64 0, .int .i64 0, .int .i64 0] 36) ∧ w5.heap[W.heap.size + 1 + 1]? = some (.cells #[.int .i64 9, .bool false, .int .i64 0, .string ⟨#[]⟩, .slice none 0 0, .slice none 0 0, .int .u64 0, .int .i64 0, .int .i64 0] 36) ∧ Below W.heap.size W w5 ∧ ∀ q, (Value.slice o nn cap).ownBlock = some q → W.heap.size + 3 ≤ q) := by
    show ∀ (w5 : World), _
    intro w5 o cap hB5 hown
    obtain ⟨fR, fO⟩ := kp.out w5 hB5
    exact ⟨fR, fO, HBW.out.trans (hB5.mono HBW.out.size), fun q e => by have := (hown.lt q e).1; have := HS3.out; omega⟩
  clear kp
  refine wp_region_held_drew (S := fun _ => True) (by kernel_rfl) trivial ?_
  intro hS
  (refine wpAnyH_take (i := 0) (v := ?_) rfl (by kernel_rfl) (by kernel_rfl) (by kernel_rfl) (fun _ _ _ h => h) (Or.inl ⟨by rfl, ?_⟩) trivial ?_); rotate_left; focus (intro w' hSw; go_simp; (try with_reducible rfl)); (try simp only [Act.put, List.getElem_toArray, List.getElem_cons_zero, List.getElem_cons_succ, List.setIfInBounds_toArray, List.set_cons_zero, List.set_cons_succ])
  (refine wpAnyH_take (i := 1) (v := ?_) rfl (by kernel_rfl) (by kernel_rfl) (by kernel_rfl) (fun _ _ _ h => h) (Or.inl ⟨by rfl, ?_⟩) trivial ?_); rotate_left; focus (intro w' hSw; go_simp; (try with_reducible rfl)); (try simp only [Act.put, List.getElem_toArray, List.getElem_cons_zero, List.getElem_cons_succ, List.setIfInBounds_toArray, List.set_cons_zero, List.set_cons_succ])
  (refine wpAnyH_take (i := 5) (v := ?_) rfl (by kernel_rfl) (by kernel_rfl) (by kernel_rfl) (fun _ _ _ h => h) (Or.inl ⟨by rfl, ?_⟩) trivial ?_); rotate_left; focus (intro w' hSw; go_simp; (try with_reducible rfl)); (try simp only [Act.put, List.getElem_toArray, List.getElem_cons_zero, List.getElem_cons_succ, List.setIfInBounds_toArray, List.set_cons_zero, List.set_cons_succ])
  (refine wpAnyH_take (i := 6) (v := ?_) rfl (by kernel_rfl) (by kernel_rfl) (by kernel_rfl) (fun _ _ _ h => h) (Or.inl ⟨by rfl, ?_⟩) trivial ?_); rotate_left; focus (intro w' hSw; go_simp; (try with_reducible rfl)); (try simp only [Act.put, List.getElem_toArray, List.getElem_cons_zero, List.getElem_cons_succ, List.setIfInBounds_toArray, List.set_cons_zero, List.set_cons_succ])
  have bW3d := bD
  generalize W3.drew = W3d at *
  refine wpAnyH_ready (rs := [2]) (by kernel_rfl) (by simp) ?_
  refine AllReadyH.cons rfl (fun K hK => ?_) AllReadyH.nil
  · go_simp
    refine (cb _ bW3d).mono ?_
    rintro e w' ⟨rfl, hw⟩
    have hw' := hw.symm
    subst hw'
    clear hw
    refine hK.out _ _ trivial (fun _ => ?_)
    clear hK K
    (refine wpAnyH_take (i := 3) (v := ?_) rfl (by kernel_rfl) (by kernel_rfl) (by kernel_rfl) (fun _ _ _ h => h) (Or.inl ⟨by rfl, ?_⟩) trivial ?_); rotate_left; focus (intro w' hSw; go_simp; (try with_reducible rfl)); (try simp only [Act.put, List.getElem_toArray, List.getElem_cons_zero, List.getElem_cons_succ, List.setIfInBounds_toArray, List.set_cons_zero, List.set_cons_succ])
    refine wpAnyH_ready (rs := [4, 7]) (by kernel_rfl) (by simp) ?_
    refine AllReadyH.cons rfl (fun K hK => ?_) (AllReadyH.cons rfl (fun K hK => ?_) AllReadyH.nil)
    · obtain ⟨wm, hmk, hom, bmk⟩ := make_cap W3d W3.heap.size nn HL.out (bW3d.size)
      have bwm := bW3d.trans (bmk.mono bW3d.size)
      go_simp
      refine hK.out _ _ trivial (fun _ => ?_)
      clear hK K hmk
      (try simp only [Act.put, List.getElem_toArray, List.getElem_cons_zero, List.getElem_cons_succ, List.setIfInBounds_toArray, List.set_cons_zero, List.set_cons_succ])
      refine wpAnyH_ready (rs := [7]) (by kernel_rfl) (by simp) ?_
      refine AllReadyH.cons rfl (fun K hK => ?_) AllReadyH.nil
      go_simp
      refine (cw _).mono ?_
      rintro e ww ⟨rfl, hw⟩
      have bw1 : Below wm.heap.size wm ww := by
        rw [hw]
        exact ((Below.refl _ wm).alloc (Nat.le_refl _) _).alloc (by rw [World.size_alloc]; omega) _
      have xh : Boxed ww wm.heap.size 23 (.pointer (some ⟨hb, 0, none⟩)) := by
        rw [hw]
        exact box_of (Below.heap_alloc _ _ _ (by rw [World.size_alloc]; omega)) (Boxed.new wm _ _)
      have xi : Boxed ww (wm.heap.size + 1) 3 (.int .i64 id) := by
        have := Boxed.new (wm.alloc (.cells #[.pointer (some ⟨hb, 0, none⟩)] 23)) 3 (.int .i64 id)
        rw [World.size_alloc] at this
        rw [hw]
        exact this
      clear hw
      have bww := bwm.trans (bw1.mono bwm.size)
      refine hK.out _ _ trivial (fun _ => ?_)
      clear hK K
      (try simp only [Act.put, List.getElem_toArray, List.getElem_cons_zero, List.getElem_cons_succ, List.setIfInBounds_toArray, List.set_cons_zero, List.set_cons_succ])
      refine wpAnyH_ready (rs := [8]) (by kernel_rfl) (by simp) ?_
      refine AllReadyH.cons rfl (fun K hK => ?_) AllReadyH.nil
      go_simp
      refine (cq ww bww _ _ xh xi (by have := bwm.size; omega) (by have := bwm.size; omega) _ (owns_on hom (fun k e => bw1.block k (hom.lt k e).2))).mono ?_
      rintro e w5 ⟨o5, c5, rfl, b5, ho5⟩
      refine hK.out _ _ trivial (fun _ => ?_)
      clear hK K cq
      (try simp only [Act.put, List.getElem_toArray, List.getElem_cons_zero, List.getElem_cons_succ, List.setIfInBounds_toArray, List.set_cons_zero, List.set_cons_succ])
      obtain ⟨fR, fO, hBf, hge⟩ := fin.out w5 o5 c5 b5 ho5
      have eR := fun j => cell_of_row w5 W.heap.size j _ _ _ fR
      have eO := fun j => cell_of_row w5 (W.heap.size + 1 + 1) j _ _ _ fO
      have zR : ∀ j, w5.frozen? ⟨W.heap.size, j, none⟩ = false := fun j => by simp [World.frozen?, fR]
      have zO : ∀ j, w5.frozen? ⟨W.heap.size + 1 + 1, j, none⟩ = false := fun j => by simp [World.frozen?, fO]
      have FR := hid fR
      have HBf := hid hBf
      have HO := hid ho5
      have HG := hid hge
      clear fR fO hBf ho5 hge fin b5 bww bwm xh xi bmk bw1 hom bW3d
      (refine wpAnyH_take (i := 9) (v := ?_) rfl (by kernel_rfl) (by kernel_rfl) (by kernel_rfl) (fun _ _ _ h => h) (Or.inl ⟨by rfl, ?_⟩) trivial ?_); rotate_left; focus (intro w' hSw; go_simp; (try with_reducible rfl)); (try simp only [Act.put, List.getElem_toArray, List.getElem_cons_zero, List.getElem_cons_succ, List.setIfInBounds_toArray, List.set_cons_zero, List.set_cons_succ])
      refine wpAnyH_ready (rs := [10]) (by kernel_rfl) (by simp) ?_
      refine AllReadyH.cons rfl (fun K hK => ?_) AllReadyH.nil
      go_simp
      refine hK.out _ _ trivial (fun _ => ?_)
      clear hK K
      (try simp only [Act.put, List.getElem_toArray, List.getElem_cons_zero, List.getElem_cons_succ, List.setIfInBounds_toArray, List.set_cons_zero, List.set_cons_succ])
      refine wpAnyH_done (by kernel_rfl) ?_ _
      go_wp2
      subst hnn
      refine bodyPost_ret (cell_ret rfl _ _ W.heap.size _ _ _ _ _ _ _ _ _ (0, 0) rfl (nine_set ((Below.heap_setCell _ _ _ _ (by show W.heap.size ≠ W.heap.size + 1 + 1; omega)).trans FR.out) _ _ _ _ _ _ _ _ _)) rfl ?_
      refine ⟨o5, c5, rfl, nine_below (HBf.out.setCell (p := ⟨W.heap.size + 1 + 1, 5, none⟩) (by show W.heap.size ≤ W.heap.size + 1 + 1; omega) _) (Nat.le_refl _) _ _ _ _ _ _ _ _ _, ?_⟩
      refine owns_on (owns_base HO.out (fun q e => by have := HG.out q e; omega)) (fun q e => ?_)
      have hq := HG.out q e
      refine (nine_far _ _ _ _ _ _ _ _ _ _ _ q (by omega)).trans (Below.heap_setCell _ _ _ _ ?_)
      show q ≠ W.heap.size + 1 + 1
      omega
    · go_simp
      refine (cw _).mono ?_
      rintro e ww ⟨rfl, hw⟩
      have bw1 : Below W3d.heap.size W3d ww := by
        rw [hw]
        exact ((Below.refl _ W3d).alloc (Nat.le_refl _) _).alloc (by rw [World.size_alloc]; omega) _
      have xh : Boxed ww W3d.heap.size 23 (.pointer (some ⟨hb, 0, none⟩)) := by
        rw [hw]
        exact box_of (Below.heap_alloc _ _ _ (by rw [World.size_alloc]; omega)) (Boxed.new W3d _ _)
      have xi : Boxed ww (W3d.heap.size + 1) 3 (.int .i64 id) := by
        have := Boxed.new (W3d.alloc (.cells #[.pointer (some ⟨hb, 0, none⟩)] 23)) 3 (.int .i64 id)
        rw [World.size_alloc] at this
        rw [hw]
        exact this
      clear hw
      have bww := bW3d.trans (bw1.mono bW3d.size)
      refine hK.out _ _ trivial (fun _ => ?_)
      clear hK K
      (try simp only [Act.put, List.getElem_toArray, List.getElem_cons_zero, List.getElem_cons_succ, List.setIfInBounds_toArray, List.set_cons_zero, List.set_cons_succ])
      refine wpAnyH_ready (rs := [4]) (by kernel_rfl) (by simp) ?_
      refine AllReadyH.cons rfl (fun K hK => ?_) AllReadyH.nil
      obtain ⟨wm, hmk, hom, bmk⟩ := make_cap ww W3.heap.size nn HL.out (bww.size)
      have bwm := bww.trans (bmk.mono bww.size)
      go_simp
      refine hK.out _ _ trivial (fun _ => ?_)
      clear hK K hmk
      (try simp only [Act.put, List.getElem_toArray, List.getElem_cons_zero, List.getElem_cons_succ, List.setIfInBounds_toArray, List.set_cons_zero, List.set_cons_succ])
      refine wpAnyH_ready (rs := [8]) (by kernel_rfl) (by simp) ?_
      refine AllReadyH.cons rfl (fun K hK => ?_) AllReadyH.nil
      go_simp
      refine (cq wm bwm _ _ (box_of (bmk.block _ xh.lt) xh) (box_of (bmk.block _ xi.lt) xi) (by have := bW3d.size; omega) (by have := bW3d.size; omega) _ hom).mono ?_
      rintro e w5 ⟨o5, c5, rfl, b5, ho5⟩
      refine hK.out _ _ trivial (fun _ => ?_)
      clear hK K cq
      (try simp only [Act.put, List.getElem_toArray, List.getElem_cons_zero, List.getElem_cons_succ, List.setIfInBounds_toArray, List.set_cons_zero, List.set_cons_succ])
      obtain ⟨fR, fO, hBf, hge⟩ := fin.out w5 o5 c5 b5 ho5
      have eR := fun j => cell_of_row w5 W.heap.size j _ _ _ fR
      have eO := fun j => cell_of_row w5 (W.heap.size + 1 + 1) j _ _ _ fO
      have zR : ∀ j, w5.frozen? ⟨W.heap.size, j, none⟩ = false := fun j => by simp [World.frozen?, fR]
      have zO : ∀ j, w5.frozen? ⟨W.heap.size + 1 + 1, j, none⟩ = false := fun j => by simp [World.frozen?, fO]
      have FR := hid fR
      have HBf := hid hBf
      have HO := hid ho5
      have HG := hid hge
      clear fR fO hBf ho5 hge fin b5 bwm bww xh xi bmk bw1 hom bW3d
      (refine wpAnyH_take (i := 9) (v := ?_) rfl (by kernel_rfl) (by kernel_rfl) (by kernel_rfl) (fun _ _ _ h => h) (Or.inl ⟨by rfl, ?_⟩) trivial ?_); rotate_left; focus (intro w' hSw; go_simp; (try with_reducible rfl)); (try simp only [Act.put, List.getElem_toArray, List.getElem_cons_zero, List.getElem_cons_succ, List.setIfInBounds_toArray, List.set_cons_zero, List.set_cons_succ])
      refine wpAnyH_ready (rs := [10]) (by kernel_rfl) (by simp) ?_
      refine AllReadyH.cons rfl (fun K hK => ?_) AllReadyH.nil
      go_simp
      refine hK.out _ _ trivial (fun _ => ?_)
      clear hK K
      (try simp only [Act.put, List.getElem_toArray, List.getElem_cons_zero, List.getElem_cons_succ, List.setIfInBounds_toArray, List.set_cons_zero, List.set_cons_succ])
      refine wpAnyH_done (by kernel_rfl) ?_ _
      go_wp2
      subst hnn
      refine bodyPost_ret (cell_ret rfl _ _ W.heap.size _ _ _ _ _ _ _ _ _ (0, 0) rfl (nine_set ((Below.heap_setCell _ _ _ _ (by show W.heap.size ≠ W.heap.size + 1 + 1; omega)).trans FR.out) _ _ _ _ _ _ _ _ _)) rfl ?_
      refine ⟨o5, c5, rfl, nine_below (HBf.out.setCell (p := ⟨W.heap.size + 1 + 1, 5, none⟩) (by show W.heap.size ≤ W.heap.size + 1 + 1; omega) _) (Nat.le_refl _) _ _ _ _ _ _ _ _ _, ?_⟩
      refine owns_on (owns_base HO.out (fun q e => by have := HG.out q e; omega)) (fun q e => ?_)
      have hq := HG.out q e
      refine (nine_far _ _ _ _ _ _ _ _ _ _ _ q (by omega)).trans (Below.heap_setCell _ _ _ _ ?_)
      show q ≠ W.heap.size + 1 + 1
      omega
theorem get_row (g : HLay W hb sb vc T H u h) (w : Nat) (hw : w < 18446744073709551616) (id : Nat) (hi : hit H w = some id) (ws : List Nat) (hc : H[id]? = some (some (.row ws))) :
    Calls Try.prog 30 #[.pointer (some ⟨hb, 0, none⟩), .int .u64 w] W fun e w' => ∃ o cap, e = .returned (.tuple #[.agg #[.int .i64 9, .bool false, .int .i64 0, .string ⟨#[]⟩, .slice none 0 0, .slice o ws.length cap, .int .u64 0, .int .i64 0, .int .i64 0], .int .i64 0]) ∧ Below W.heap.size W w' ∧ w'.ownsRow W.heap.size 22 1 (.slice o ws.length cap) ws.length (ws.map (fun x => .int .u64 (x : Nat))) := by
  have hB1 : Below W.heap.size W (W.alloc (.cells #[.int .i64 0, .bool false, .int .i64 0, .string ⟨#[]⟩, .slice none 0 0, .slice none 0 0, .int .u64 0, .int .i64 0, .int .i64 0] 36)) := (Below.refl _ W).alloc (Nat.le_refl _) _
  have hs1 : (W.alloc (.cells #[.int .i64 0, .bool false, .int .i64 0, .string ⟨#[]⟩, .slice none 0 0, .slice none 0 0, .int .u64 0, .int .i64 0, .int .i64 0] 36)).heap.size = W.heap.size + 1 := World.size_alloc ..
  have f1 := World.alloc_heap_new W (.cells #[.int .i64 0, .bool false, .int .i64 0, .string ⟨#[]⟩, .slice none 0 0, .slice none 0 0, .int .u64 0, .int .i64 0, .int .i64 0] 36)
  have cf := find_c (g.below hB1) w hw
  rw [hi] at cf
  simp only [Option.getD_some, Option.isSome_some] at cf
  have cl := load_row (g.below hB1) id ws hc

  have kp : Hid (∀ w4, Below (W.alloc (.cells #[.int .i64 0, .bool false, .int .i64 0, .string ⟨#[]⟩, .slice none 0 0, .slice none 0 0, .int .u64 0, .int .i64 0, .int .i64 0] 36)).heap.size (W.alloc (.cells #[.int .i64 0, .bool false, .int .i64 0, .string ⟨#[]⟩, .slice none 0 0, .slice none 0 0, .int .u64 0, .int .i64 0, .int .i64 0] 36)) w4 → w4.heap[W.heap.size]? = some (.cells #[.int .i64 0, .bool false, .int .i64 0, .string ⟨#[]⟩, .slice none 0 0, .slice none 0 0, .int .u64 0, .int .i64 0, .int .i64 0] 36) ∧ Below W.heap.size W w4) := by
    show ∀ w4, _
    intro w4 hB4
    exact ⟨(hB4.block _ (by omega)).trans f1, hB1.trans (hB4.mono hB1.size)⟩
  clear hc
  have S1 := hid hs1
  generalize hnn : ws.length = nn at *
  go_enter Try.func30, Try.ntmps30
  go_upto_region 1 with fail
  generalize W.alloc (.cells #[.int .i64 0, .bool false, .int .i64 0, .string ⟨#[]⟩, .slice none 0 0, .slice none 0 0, .int .u64 0, .int .i64 0, .int .i64 0] 36) = W1 at *
  go_wp2_with (first | (go_at_call 41; (with_reducible refine cf.mono ?_); rintro e w' ⟨rfl, hw⟩; (have hw' := hw.symm); subst hw'; clear hw cf) | (go_at_call 53; (with_reducible refine cl.mono ?_); rintro e w4 ⟨o, cap, rfl, hB4, hown⟩; clear cl; (obtain ⟨fR, hBf⟩ := kp.out w4 hB4); (have HO := hid hown); clear hown; (have eR := fun j => cell_of_row w4 W.heap.size j _ _ _ fR); (have zR := (fun j => by simp [World.frozen?, fR] : ∀ j, w4.frozen? ⟨W.heap.size, j, none⟩ = false)); (have FR := hid fR); clear fR))
  refine bodyPost_ret (cell_ret2 rfl _ _ W.heap.size _ _ _ _ _ _ _ _ _ (0, 0) rfl (nine_set FR.out _ _ _ _ _ _ _ _ _)) rfl ?_
  subst hnn
  refine ⟨o, cap, rfl, nine_below hBf (Nat.le_refl _) _ _ _ _ _ _ _ _ _, ?_⟩
  have HG : ∀ q, (Value.slice o ws.length cap).ownBlock = some q → W.heap.size + 1 ≤ q := fun q e => by have := (HO.out.lt q e).1; have := S1.out; omega
  refine owns_on (owns_base HO.out (fun q e => by have := HG q e; omega)) (fun q e => ?_)
  exact nine_far _ _ _ _ _ _ _ _ _ _ _ q (by have := HG q e; omega)
end
end Go.Proofs.Ytfbncmjocaechaa.W
/- Unbox of nil, of truths, of rows. (The truths as in O8b, the rows as V7f's strings.) -/
namespace Go.Proofs.Ytfbncmjocaechaa.W
open Go.ChangeShapes Go.WideShapes Go.RowKit Go.Shelf
set_option linter.unusedVariables false
theorem toB_true (w : World) : Calls Try.prog 73 #[.int .u64 (boolW true)] w fun e w' => e = .returned (.tuple #[.bool true, .bool true]) ∧ w' = w := by
  have := toBool_c (boolW true) (by decide) (by decide) w
  rw [show toBool (boolW true) = true from by decide, show (cls (boolW true) == 4) = true from by decide] at this
  exact this
theorem unboxBool_true (W : World) : Calls Try.prog 48 #[.int .u64 (boolW true)] W fun e w' => e = .returned (.agg #[.int .i64 1, .int .i64 1, .int .u64 0, .string ⟨#[]⟩, .int .u64 0]) ∧ Below W.heap.size W w' := by
  have hB : ∀ c, Below W.heap.size W (W.alloc (.cells c 28)) := fun c => (Below.refl _ W).alloc (Nat.le_refl _) _
  generalize hn : boolW true = n
  have cc := toB_true
  rw [hn] at cc
  clear hn
  go_enter Try.func48, Try.ntmps48
  go_wp2_with (go_at_call 73; (with_reducible refine (cc _).mono ?_); rintro e w' ⟨rfl, hw⟩; (have hw' := hw.symm); subst hw'; clear hw)
  exact bodyPost_ret (v := .agg #[.int .i64 1, .int .i64 1, .int .u64 0, .string ⟨#[]⟩, .int .u64 0]) (by simp [results, Try.results48, go_sem]) rfl ⟨rfl, hB _⟩
set_option maxRecDepth 100000 in
theorem unbox_true (hp : Value) (W : World) : Calls Try.prog 25 #[hp, .int .u64 (boolW true)] W fun e w' => e = .returned (.tuple #[.agg #[.int .i64 1, .int .i64 1, .int .u64 0, .string ⟨#[]⟩, .int .u64 0], .int .i64 0]) ∧ Below W.heap.size W w' := by
  have hB1 : Below W.heap.size W (W.alloc (.cells #[.int .i64 0, .int .i64 0, .int .u64 0, .string ⟨#[]⟩, .int .u64 0] 28)) := (Below.refl _ W).alloc (Nat.le_refl _) _
  have f1 := World.alloc_heap_new W (.cells #[.int .i64 0, .int .i64 0, .int .u64 0, .string ⟨#[]⟩, .int .u64 0] 28)
  have cc := fun W => class_c (boolW true) (by decide) (by decide) W
  rw [show cls (boolW true) = 4 from by decide] at cc
  have cu := fun W => unboxBool_true W
  generalize boolW true = n at *
  go_enter Try.func25, Try.ntmps25
  go_upto_region 1 with fail
  have kp := hid (show ∀ w4, Below (W.alloc (.cells #[.int .i64 0, .int .i64 0, .int .u64 0, .string ⟨#[]⟩, .int .u64 0] 28)).heap.size (W.alloc (.cells #[.int .i64 0, .int .i64 0, .int .u64 0, .string ⟨#[]⟩, .int .u64 0] 28)) w4 → w4.heap[W.heap.size]? = some (.cells #[.int .i64 0, .int .i64 0, .int .u64 0, .string ⟨#[]⟩, .int .u64 0] 28 (0, 0)) ∧ Below W.heap.size W w4 from fun w4 hB4 => ⟨(hB4.block _ (by rw [World.size_alloc]; exact Nat.lt_succ_self _)).trans f1, hB1.trans (hB4.mono hB1.size)⟩)
  clear f1 hB1
  generalize W.alloc (.cells #[.int .i64 0, .int .i64 0, .int .u64 0, .string ⟨#[]⟩, .int .u64 0] 28) = W1 at *
  go_wp2_with (first | (go_at_call 47; (with_reducible refine (cc _).mono ?_); rintro e w' ⟨rfl, hw⟩; (have hw' := hw.symm); subst hw'; clear hw) | (go_at_call 48; (with_reducible refine (cu _).mono ?_); rintro e W2 ⟨rfl, hB2⟩; (obtain ⟨f2, hB3⟩ := kp.out W2 hB2); (have eR := fun j => cell_of_row _ W.heap.size j _ _ _ f2); (have zR := (fun j => by simp only [World.frozen?, f2]; simp : ∀ j, W2.frozen? ⟨W.heap.size, j, none⟩ = false)); (have FR := hid f2); (have HB := hid hB3); clear f2 hB3 hB2 kp))
  refine bodyPost_ret (val_ret2 rfl _ _ W.heap.size _ _ _ _ _ (0, 0) rfl (five_set FR.out _ _ _ _ _)) rfl ?_
  exact ⟨rfl, five_below HB.out (Nat.le_refl _) _ _ _ _ _⟩
theorem toB_false (w : World) : Calls Try.prog 73 #[.int .u64 (boolW false)] w fun e w' => e = .returned (.tuple #[.bool false, .bool true]) ∧ w' = w := by
  have := toBool_c (boolW false) (by decide) (by decide) w
  rw [show toBool (boolW false) = false from by decide, show (cls (boolW false) == 4) = true from by decide] at this
  exact this
theorem unboxBool_false (W : World) : Calls Try.prog 48 #[.int .u64 (boolW false)] W fun e w' => e = .returned (.agg #[.int .i64 1, .int .i64 0, .int .u64 0, .string ⟨#[]⟩, .int .u64 0]) ∧ Below W.heap.size W w' := by
  have hB : ∀ c, Below W.heap.size W (W.alloc (.cells c 28)) := fun c => (Below.refl _ W).alloc (Nat.le_refl _) _
  generalize hn : boolW false = n
  have cc := toB_false
  rw [hn] at cc
  clear hn
  go_enter Try.func48, Try.ntmps48
  go_wp2_with (go_at_call 73; (with_reducible refine (cc _).mono ?_); rintro e w' ⟨rfl, hw⟩; (have hw' := hw.symm); subst hw'; clear hw)
  exact bodyPost_ret (v := .agg #[.int .i64 1, .int .i64 0, .int .u64 0, .string ⟨#[]⟩, .int .u64 0]) (by simp [results, Try.results48, go_sem]) rfl ⟨rfl, hB _⟩
set_option maxRecDepth 100000 in
theorem unbox_false (hp : Value) (W : World) : Calls Try.prog 25 #[hp, .int .u64 (boolW false)] W fun e w' => e = .returned (.tuple #[.agg #[.int .i64 1, .int .i64 0, .int .u64 0, .string ⟨#[]⟩, .int .u64 0], .int .i64 0]) ∧ Below W.heap.size W w' := by
  have hB1 : Below W.heap.size W (W.alloc (.cells #[.int .i64 0, .int .i64 0, .int .u64 0, .string ⟨#[]⟩, .int .u64 0] 28)) := (Below.refl _ W).alloc (Nat.le_refl _) _
  have f1 := World.alloc_heap_new W (.cells #[.int .i64 0, .int .i64 0, .int .u64 0, .string ⟨#[]⟩, .int .u64 0] 28)
  have cc := fun W => class_c (boolW false) (by decide) (by decide) W
  rw [show cls (boolW false) = 4 from by decide] at cc
  have cu := fun W => unboxBool_false W
  generalize boolW false = n at *
  go_enter Try.func25, Try.ntmps25
  go_upto_region 1 with fail
  have kp := hid (show ∀ w4, Below (W.alloc (.cells #[.int .i64 0, .int .i64 0, .int .u64 0, .string ⟨#[]⟩, .int .u64 0] 28)).heap.size (W.alloc (.cells #[.int .i64 0, .int .i64 0, .int .u64 0, .string ⟨#[]⟩, .int .u64 0] 28)) w4 → w4.heap[W.heap.size]? = some (.cells #[.int .i64 0, .int .i64 0, .int .u64 0, .string ⟨#[]⟩, .int .u64 0] 28 (0, 0)) ∧ Below W.heap.size W w4 from fun w4 hB4 => ⟨(hB4.block _ (by rw [World.size_alloc]; exact Nat.lt_succ_self _)).trans f1, hB1.trans (hB4.mono hB1.size)⟩)
  clear f1 hB1
  generalize W.alloc (.cells #[.int .i64 0, .int .i64 0, .int .u64 0, .string ⟨#[]⟩, .int .u64 0] 28) = W1 at *
  go_wp2_with (first | (go_at_call 47; (with_reducible refine (cc _).mono ?_); rintro e w' ⟨rfl, hw⟩; (have hw' := hw.symm); subst hw'; clear hw) | (go_at_call 48; (with_reducible refine (cu _).mono ?_); rintro e W2 ⟨rfl, hB2⟩; (obtain ⟨f2, hB3⟩ := kp.out W2 hB2); (have eR := fun j => cell_of_row _ W.heap.size j _ _ _ f2); (have zR := (fun j => by simp only [World.frozen?, f2]; simp : ∀ j, W2.frozen? ⟨W.heap.size, j, none⟩ = false)); (have FR := hid f2); (have HB := hid hB3); clear f2 hB3 hB2 kp))
  refine bodyPost_ret (val_ret2 rfl _ _ W.heap.size _ _ _ _ _ (0, 0) rfl (five_set FR.out _ _ _ _ _)) rfl ?_
  exact ⟨rfl, five_below HB.out (Nat.le_refl _) _ _ _ _ _⟩
section
variable {W W' : World} {hb sb : Nat} {vc : Value} {T : Nat → Prop} {H : List (Option Hc)} {u h : Nat}
theorem unboxCell_row (g : HLay W hb sb vc T H u h) (w : Nat) (hw : w < 18446744073709551616) (id : Nat) (hi : hit H w = some id) (ws : List Nat) (hc : H[id]? = some (some (.row ws))) :
    Calls Try.prog 51 #[.pointer (some ⟨hb, 0, none⟩), .int .u64 w] W fun e w' => e = .returned (.tuple #[.agg #[.int .i64 9, .int .i64 0, .int .u64 0, .string ⟨#[]⟩, .int .u64 w], .int .i64 0]) ∧ Below W.heap.size W w' := by
  have hB1 : Below W.heap.size W (W.alloc (.cells #[.int .i64 0, .int .i64 0, .int .u64 0, .string ⟨#[]⟩, .int .u64 0] 28)) := (Below.refl _ W).alloc (Nat.le_refl _) _
  have hs1 : (W.alloc (.cells #[.int .i64 0, .int .i64 0, .int .u64 0, .string ⟨#[]⟩, .int .u64 0] 28)).heap.size = W.heap.size + 1 := World.size_alloc ..
  have f1 := World.alloc_heap_new W (.cells #[.int .i64 0, .int .i64 0, .int .u64 0, .string ⟨#[]⟩, .int .u64 0] 28)
  have cg := get_row (g.below hB1) w hw id hi ws hc
  have kp : Hid (∀ w4, Below (W.alloc (.cells #[.int .i64 0, .int .i64 0, .int .u64 0, .string ⟨#[]⟩, .int .u64 0] 28)).heap.size (W.alloc (.cells #[.int .i64 0, .int .i64 0, .int .u64 0, .string ⟨#[]⟩, .int .u64 0] 28)) w4 → w4.heap[W.heap.size]? = some (.cells #[.int .i64 0, .int .i64 0, .int .u64 0, .string ⟨#[]⟩, .int .u64 0] 28) ∧ Below W.heap.size W w4 ∧ W.heap.size + 1 ≤ w4.heap.size) := by
    show ∀ w4, _
    intro w4 hB4
    exact ⟨(hB4.block _ (by omega)).trans f1, hB1.trans (hB4.mono hB1.size), by have := hB4.size; omega⟩
  clear g hc
  go_enter Try.func51, Try.ntmps51
  go_upto_region 1 with fail
  generalize W.alloc (.cells #[.int .i64 0, .int .i64 0, .int .u64 0, .string ⟨#[]⟩, .int .u64 0] 28) = W1 at *
  go_upto_region 2 with (go_at_call 30; (with_reducible refine cg.mono ?_); rintro e w4 ⟨o4, cap4, rfl, hB4, _⟩; clear cg; (obtain ⟨fR, hBf, hz4⟩ := kp.out w4 hB4))
  have hB5 : Below w4.heap.size w4 (w4.alloc (.cells #[.int .i64 9, .bool false, .int .i64 0, .string ⟨#[]⟩, .slice none 0 0, .slice o4 ws.length cap4, .int .u64 0, .int .i64 0, .int .i64 0] 36)) := (Below.refl _ w4).alloc (Nat.le_refl _) _
  have e5 := World.cell?_alloc_new w4 #[.int .i64 9, .bool false, .int .i64 0, .string ⟨#[]⟩, .slice none 0 0, .slice o4 ws.length cap4, .int .u64 0, .int .i64 0, .int .i64 0] 36
  have d0 := e5 0
  simp only [List.getElem?_toArray, List.getElem?_cons_zero] at d0
  generalize w4.alloc (.cells #[.int .i64 9, .bool false, .int .i64 0, .string ⟨#[]⟩, .slice none 0 0, .slice o4 ws.length cap4, .int .u64 0, .int .i64 0, .int .i64 0] 36) = W5 at *
  have f5 : W5.heap[W.heap.size]? = some (.cells #[.int .i64 0, .int .i64 0, .int .u64 0, .string ⟨#[]⟩, .int .u64 0] 28) := (hB5.block _ (by omega)).trans fR
  have hBe : Below W.heap.size W W5 := hBf.trans (hB5.mono hBf.size)
  have eR := fun j => cell_of_row W5 W.heap.size j _ _ _ f5
  have zR : ∀ j, W5.frozen? ⟨W.heap.size, j, none⟩ = false := fun j => by simp [World.frozen?, f5]
  have FR := hid f5
  clear f5 fR hB5 hBf hB4 e5 hz4
  go_wp2
  refine bodyPost_ret (val_ret2 rfl _ _ W.heap.size _ _ _ _ _ (0, 0) rfl (five_set FR.out _ _ _ _ _)) rfl ?_
  exact ⟨rfl, five_below hBe (Nat.le_refl _) _ _ _ _ _⟩
theorem unbox_row (g : HLay W hb sb vc T H u h) (w : Nat) (hw : w < 18446744073709551616) (hcl : cls (w : Int) = 6) (id : Nat) (hi : hit H w = some id) (ws : List Nat) (hc : H[id]? = some (some (.row ws))) :
    Calls Try.prog 25 #[.pointer (some ⟨hb, 0, none⟩), .int .u64 w] W fun e w' => e = .returned (.tuple #[.agg #[.int .i64 9, .int .i64 0, .int .u64 0, .string ⟨#[]⟩, .int .u64 w], .int .i64 0]) ∧ Below W.heap.size W w' := by
  have hB1 : Below W.heap.size W (W.alloc (.cells #[.int .i64 0, .int .i64 0, .int .u64 0, .string ⟨#[]⟩, .int .u64 0] 28)) := (Below.refl _ W).alloc (Nat.le_refl _) _
  have hs1 : (W.alloc (.cells #[.int .i64 0, .int .i64 0, .int .u64 0, .string ⟨#[]⟩, .int .u64 0] 28)).heap.size = W.heap.size + 1 := World.size_alloc ..
  have f1 := World.alloc_heap_new W (.cells #[.int .i64 0, .int .i64 0, .int .u64 0, .string ⟨#[]⟩, .int .u64 0] 28)
  have cc := fun W => class_c (w : Int) (by omega) (by omega) W
  rw [hcl] at cc
  have cu := unboxCell_row (g.below hB1) w hw id hi ws hc
  have kp : Hid (∀ w4, Below (W.alloc (.cells #[.int .i64 0, .int .i64 0, .int .u64 0, .string ⟨#[]⟩, .int .u64 0] 28)).heap.size (W.alloc (.cells #[.int .i64 0, .int .i64 0, .int .u64 0, .string ⟨#[]⟩, .int .u64 0] 28)) w4 → w4.heap[W.heap.size]? = some (.cells #[.int .i64 0, .int .i64 0, .int .u64 0, .string ⟨#[]⟩, .int .u64 0] 28) ∧ Below W.heap.size W w4) := by
    show ∀ w4, _
    intro w4 hB4
    exact ⟨(hB4.block _ (by omega)).trans f1, hB1.trans (hB4.mono hB1.size)⟩
  clear g hc hcl
  go_enter Try.func25, Try.ntmps25
  go_upto_region 1 with fail
  generalize W.alloc (.cells #[.int .i64 0, .int .i64 0, .int .u64 0, .string ⟨#[]⟩, .int .u64 0] 28) = W1 at *
  go_wp2_with (first | (go_at_call 47; (with_reducible refine (cc _).mono ?_); rintro e w' ⟨rfl, hw⟩; (have hw' := hw.symm); subst hw'; clear hw) | (go_at_call 51; (with_reducible refine cu.mono ?_); rintro e w4 ⟨rfl, hB4⟩; clear cu; (obtain ⟨fR, hBf⟩ := kp.out w4 hB4); (have eR := fun j => cell_of_row w4 W.heap.size j _ _ _ fR); (have zR := (fun j => by simp [World.frozen?, fR] : ∀ j, w4.frozen? ⟨W.heap.size, j, none⟩ = false)); (have FR := hid fR); clear fR))
  refine bodyPost_ret (val_ret2 rfl _ _ W.heap.size _ _ _ _ _ (0, 0) rfl (five_set FR.out _ _ _ _ _)) rfl ?_
  exact ⟨rfl, five_below hBf (Nat.le_refl _) _ _ _ _ _⟩
theorem unbox_nil (hp : Value) (W : World) :
    Calls Try.prog 25 #[hp, .int .u64 18444492273895866368] W fun e w' => e = .returned (.tuple #[.agg #[.int .i64 0, .int .i64 0, .int .u64 0, .string ⟨#[]⟩, .int .u64 0], .int .i64 0]) ∧ Below W.heap.size W w' := by
  (have hB1 : Below W.heap.size W (W.alloc (.cells #[.int .i64 0, .int .i64 0, .int .u64 0, .string ⟨#[]⟩, .int .u64 0] 28)) := (Below.refl _ W).alloc (Nat.le_refl _) _); (have hs1 : (W.alloc (.cells #[.int .i64 0, .int .i64 0, .int .u64 0, .string ⟨#[]⟩, .int .u64 0] 28)).heap.size = W.heap.size + 1 := World.size_alloc ..); (have f1 := World.alloc_heap_new W (.cells #[.int .i64 0, .int .i64 0, .int .u64 0, .string ⟨#[]⟩, .int .u64 0] 28))
  have cc := fun W => class_c 18444492273895866368 (by omega) (by omega) W
  rw [show cls 18444492273895866368 = 3 by decide] at cc
  go_enter Try.func25, Try.ntmps25
  go_upto_region 1 with fail
  have eR := fun j => cell_of_row _ W.heap.size j _ _ _ f1
  have zR : ∀ j, (W.alloc (.cells #[.int .i64 0, .int .i64 0, .int .u64 0, .string ⟨#[]⟩, .int .u64 0] 28)).frozen? ⟨W.heap.size, j, none⟩ = false := fun j => by simp only [World.frozen?, f1]; simp
  have FR := hid f1
  have HB := hid hB1
  clear f1 hB1 hs1
  generalize W.alloc (.cells #[.int .i64 0, .int .i64 0, .int .u64 0, .string ⟨#[]⟩, .int .u64 0] 28) = W1 at *
  go_wp2_with (go_at_call 47; (with_reducible refine (cc _).mono ?_); rintro e w' ⟨rfl, hw⟩; (have hw' := hw.symm); subst hw'; clear hw)
  refine bodyPost_ret (val_ret2 rfl _ _ W.heap.size _ _ _ _ _ (0, 0) rfl (five_set FR.out _ _ _ _ _)) rfl ?_
  exact ⟨rfl, five_below HB.out (Nat.le_refl _) _ _ _ _ _⟩
end
end Go.Proofs.Ytfbncmjocaechaa.W
