import Derived.Test.YtbgabpgohkcahaaT8cJ
import Derived.Test.YtbgabpgohkcahaaT8bJ
import Derived.Test.YtbgabpgohkcahaaBase7
/- A heap that a statement made itself, and what it keeps beside it; Box of a string; Concat, Sub. -/
namespace Go.Proofs.Ytbgabpgohkcahaa.W
open Go.ChangeShapes Go.WideShapes Go.RowKit Go.Shelf
set_option linter.unusedVariables false
/-- a heap that was made behind W0; what K names is none of its -/
def Hf (W0 W : World) (hb : Nat) (H : List (Option Hc)) (u : Nat) (K : Nat → Prop) : Prop := Below W0.heap.size W0 W ∧ ∃ S, HSt W S hb H u ∧ (∀ k, S k → W0.heap.size ≤ k ∧ k < W.heap.size) ∧ (∀ k, K k → k < W.heap.size ∧ ¬ S k)
section
variable {W0 W W1 W' : World} {hb : Nat} {H : List (Option Hc)} {u : Nat} {K K' : Nat → Prop}
theorem Hf.bel (q : Hf W0 W hb H u K) : Below W0.heap.size W0 W := q.1
theorem Hf.sub (q : Hf W0 W hb H u K) (h : ∀ k, K' k → K k) : Hf W0 W hb H u K' := by
  obtain ⟨h1, S, h2, h3, h4⟩ := q
  exact ⟨h1, S, h2, h3, fun k e => h4 k (h k e)⟩
theorem Hf.below (q : Hf W0 W hb H u K) (hB : Below W.heap.size W W') : Hf W0 W' hb H u (fun k => K k ∨ (W.heap.size ≤ k ∧ k < W'.heap.size)) := by
  obtain ⟨h1, S, h2, h3, h4⟩ := q
  have z := hB.size
  refine ⟨h1.trans (hB.mono h1.size), S, h2.below hB, fun k e => ⟨(h3 k e).1, by have := (h3 k e).2; omega⟩, ?_⟩
  rintro k (e | e)
  · exact ⟨by have := (h4 k e).1; omega, (h4 k e).2⟩
  · exact ⟨e.2, fun e2 => by have := (h3 k e2).2; omega⟩
theorem Hf.below' (q : Hf W0 W hb H u K) (hB : Below W.heap.size W W') : Hf W0 W' hb H u K := (q.below hB).sub (fun k e => .inl e)
/-- what is kept aside may be written -/
theorem Hf.upd {D : Nat → Prop} (q : Hf W0 W hb H u K) (hU : Upd D W W') (hD : ∀ k, D k → K k ∧ W0.heap.size ≤ k) : Hf W0 W' hb H u K := by
  obtain ⟨h1, S, h2, h3, h4⟩ := q
  have z := hU.size
  refine ⟨h1.trans (hU.below h1.size (fun k e => (hD k e).2)), S, h2.on z (fun k e hl => hU.block k hl (fun d => (h4 k (hD k d).1).2 e)), fun k e => ⟨(h3 k e).1, by have := (h3 k e).2; omega⟩, fun k e => ⟨by have := (h4 k e).1; omega, (h4 k e).2⟩⟩
theorem hf_new (hB : Below W0.heap.size W0 W) (u : Nat) (hu : u ≤ 1048576) : Calls Try.prog 6 #[.int .i64 u] W fun e w' => ∃ hb, e = .returned (.tuple #[.pointer (some ⟨hb, 0, none⟩), .int .i64 0]) ∧ Hf W0 w' hb [] u (fun k => k < W.heap.size) ∧ Below W.heap.size W w' := by
  refine (hnew_c u hu W).mono ?_
  rintro e w' ⟨hb, rfl, hB', g⟩
  have h1 := hB.size
  have h2 := hB'.size
  exact ⟨hb, rfl, ⟨hB.trans (hB'.mono h1), _, g, fun k e => ⟨by omega, e.2⟩, fun k e => ⟨by omega, fun e2 => by omega⟩⟩, hB'⟩
/-- what may change -/
def Ch (W0 : World) (K : Nat → Prop) : Nat → Prop := fun k => ¬ K k ∧ W0.heap.size ≤ k
theorem Hf.put {S : Nat → Prop} {H' : List (Option Hc)} (h0 : Below W0.heap.size W0 W1) (h3 : ∀ k, S k → W0.heap.size ≤ k ∧ k < W1.heap.size) (h4 : ∀ k, K k → k < W1.heap.size ∧ ¬ S k) (hU : Upd S W1 W') (g : HSt W' (Nx S W1 W') hb H' u) : Hf W0 W' hb H' u K ∧ Upd (Ch W0 K) W1 W' := by
  have z := hU.size
  have z0 := h0.size
  refine ⟨⟨h0.trans (hU.below z0 (fun k e => (h3 k e).1)), _, g, ?_, fun k e => ⟨by have := (h4 k e).1; omega, ?_⟩⟩, ⟨hU.os, hU.tape, hU.output, hU.size, fun k hk hn => hU.block k hk (fun e => hn ⟨fun e2 => (h4 k e2).2 e, (h3 k e).1⟩)⟩⟩
  · rintro k (e | e)
    · exact ⟨(h3 k e).1, by have := (h3 k e).2; omega⟩
    · exact ⟨by omega, e.2⟩
  · rintro (e2 | e2)
    · exact (h4 k e).2 e2
    · have := (h4 k e).1; omega
/-- what a string needs -/
def tneed (t : ByteArray) : Nat := 1 + (t.size + 7) / 8
theorem hf_text (q : Hf W0 W1 hb H u K) (t : ByteArray) (hl : t.size ≤ 8388608) (hf : sumH H + tneed t ≤ u) (vr : Value) (rs : List Nat) (hr : WordsAt W1 vr rs) :
    Calls Try.prog 13 #[.pointer (some ⟨hb, 0, none⟩), .agg #[.int .i64 4, .bool false, .int .i64 0, .string t, .slice none 0 0, .slice none 0 0, .int .u64 0, .int .i64 0, .int .i64 0], vr] W1 fun e w' => e = .returned (.tuple #[.int .u64 (hw (lid H) : Nat), .int .i64 0]) ∧ Hf W0 w' hb (putH H (lid H) (some (.text (strB t)))) u K ∧ Upd (Ch W0 K) W1 w' := by
  obtain ⟨h1, S, h2, h3, h4⟩ := q
  refine (put_text h2 (fun k e => (h3 k e).2) t hl none none 0 0 vr rs hr).mono ?_
  intro e w' hP
  have hf' : sumH H + (Hc.text (strB t)).need ≤ u := by rw [text_need]; exact hf
  have hrm : roomH H u (.text (strB t)) rs = H := by unfold roomH; rw [if_pos hf']
  rw [hrm] at hP
  obtain ⟨hU, ⟨_, rfl, g⟩ | ⟨hn, _⟩⟩ := hP
  · exact ⟨rfl, Hf.put h1 h3 h4 hU g⟩
  · omega
/-- behind a string that was boxed -/
def TxtPost (W0 W1 : World) (hb : Nat) (H : List (Option Hc)) (u : Nat) (K : Nat → Prop) (t : ByteArray) (e : Ending) (w' : World) : Prop := ∃ (w : Nat) (H' : List (Option Hc)), e = .returned (.tuple #[.int .u64 (w : Nat), .int .i64 0]) ∧ Hf W0 w' hb H' u K ∧ Ext H H' ∧ IsTxt H' w t ∧ sumH H' ≤ sumH H + tneed t ∧ H'.length ≤ H.length + 1 ∧ Upd (Ch W0 K) W1 w'
theorem TxtPost.two {t : ByteArray} {e : Ending} (h : TxtPost W0 W1 hb H u K t e W') : ∃ x y, e = .returned (.tuple #[.int .u64 x, .int .i64 y]) := by
  obtain ⟨w, H', rfl, _⟩ := h
  exact ⟨_, _, rfl⟩
theorem boxText_t (q : Hf W0 W1 hb H u K) (vr : Value) (rs : List Nat) (hr : WordsAt W1 vr rs) (t : ByteArray) (hl : t.size ≤ 8388608) (hf : sumH H + tneed t ≤ u) (hH : H.length ≤ 1000000) : Calls Try.prog 23 #[.pointer (some ⟨hb, 0, none⟩), .string t, vr] W1 (TxtPost W0 W1 hb H u K t) := by
  by_cases hs : t.size ≤ 5
  · refine (boxText_small _ vr t hs W1).mono ?_
    rintro e w' ⟨rfl, rfl⟩
    have hb5 := cls_is5 _ (txtW_cls t hs)
    refine ⟨(txtW t).toNat, H, by rw [Int.toNat_of_nonneg (by omega)], q, Ext.refl _, .inl ⟨hs, Int.toNat_of_nonneg (by omega)⟩, by omega, by omega, Upd.refl _ _⟩
  · have cf := fromText_c t (by simp [maxLen]; omega) W1
    rw [decide_eq_false hs] at cf
    have h1 : ¬ (t.size : Int) > 8388608 := by omega
    have cp := hf_text q t hl hf vr rs hr
    have fin : Hid (∀ w2, Hf W0 w2 hb (putH H (lid H) (some (.text (strB t)))) u K → Upd (Ch W0 K) W1 w2 → TxtPost W0 W1 hb H u K t (.returned (.tuple #[.int .u64 (hw (lid H) : Nat), .int .i64 0])) w2) := by
      show ∀ w2, _
      intro w2 hq hU
      have h9 := lid_le H
      refine ⟨hw (lid H), _, rfl, hq, ext_put H _, .inr ⟨lid H, rfl, by omega, putH_self H _⟩, ?_, ?_, hU⟩
      · rw [putH_sum, text_need]; exact Nat.le_refl _
      · rw [putH_len]; split <;> omega
    generalize hw (lid H) = X at *
    clear q hr
    go_enter Try.func23, Try.ntmps23
    go_wp2_with (first | (go_at_call 42; (with_reducible refine cf.mono ?_); rintro e w' ⟨rfl, hw⟩; (have hw' := hw.symm); subst hw'; clear hw) | (go_at_call 13; (with_reducible refine cp.mono ?_); rintro e w2 ⟨rfl, hq, hU⟩; clear cp))
    go_ret2
    exact fin.out _ hq hU
theorem TxtPost.on {W2 : World} {t : ByteArray} {e : Ending} (hB : Below W1.heap.size W1 W2) (h : TxtPost W0 W2 hb H u K t e W') : TxtPost W0 W1 hb H u K t e W' := by
  obtain ⟨w, H', rfl, h1, h2, h3, h4, h5, h6⟩ := h
  exact ⟨w, H', rfl, h1, h2, h3, h4, h5, (Upd.of_below hB).trans' h6⟩
theorem boxT (q : Hf W0 W1 hb H u K) (vr : Value) (rs : List Nat) (hr : WordsAt W1 vr rs) (t : ByteArray) (hl : t.size ≤ 8388608) (hf : sumH H + tneed t ≤ u) (hH : H.length ≤ 1000000) : Calls Try.prog 7 #[.pointer (some ⟨hb, 0, none⟩), .agg #[.int .i64 4, .int .i64 0, .int .u64 0, .string t, .int .u64 0], vr] W1 (TxtPost W0 W1 hb H u K t) := by
  refine (box_text _ vr t (fun w e w' => TxtPost W0 w hb H u K t e w') (fun w e w' h => h.two) W1 (fun w hB => boxText_t (q.below' hB) vr rs (words_below hr hB) t hl hf hH)).mono ?_
  rintro e w' ⟨w, hB, h⟩
  exact h.on hB
end
end Go.Proofs.Ytbgabpgohkcahaa.W
