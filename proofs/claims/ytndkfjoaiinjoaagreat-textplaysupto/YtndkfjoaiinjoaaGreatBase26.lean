import Derived.Test.YtndkfjoaiinjoaaGreatBase21
import Derived.Test.YtndkfjoaiinjoaaGreatBase22
import Derived.Test.YtndkfjoaiinjoaaGreatBase25
/- casketlaw6's awake. -/
namespace Go.Proofs.YtndkfjoaiinjoaaGreat.W
open Go.ChangeShapes Go.WideShapes Go.RowKit Go.Shelf
set_option linter.unusedVariables false
theorem HSt.lt {W : World} {S : Nat → Prop} {hb : Nat} {H : List (Option Hc)} {u : Nat} {W' : World} (hS : ∀ k, S k → k < W.heap.size) (hU : Upd S W W') : ∀ k, Nx S W W' k → k < W'.heap.size := by
  rintro k (e | e)
  · have := hS k e; have := hU.size; omega
  · exact e.2
end Go.Proofs.YtndkfjoaiinjoaaGreat.W
/- A heap that a statement made itself, and what it keeps beside it; Box of a string; Concat, Sub. -/
namespace Go.Proofs.YtndkfjoaiinjoaaGreat.W
open Go.ChangeShapes Go.WideShapes Go.RowKit Go.Shelf
set_option linter.unusedVariables false
/-- a heap that was made behind W0; what K names is none of its -/
def Hf (W0 W : World) (hb : Nat) (H : List (Option Hc)) (u : Nat) (K : Nat → Prop) : Prop := Below W0.heap.size W0 W ∧ ∃ S, HSt W S hb H u ∧ (∀ k, S k → W0.heap.size ≤ k ∧ k < W.heap.size) ∧ (∀ k, K k → k < W.heap.size ∧ ¬ S k)
section
variable {W0 W W1 W' : World} {hb : Nat} {H : List (Option Hc)} {u : Nat} {K K' : Nat → Prop}
theorem Hf.bel (q : Hf W0 W hb H u K) : Below W0.heap.size W0 W := q.1
theorem Hf.sub (q : Hf W0 W hb H u K) (h : ∀ k, K' k → K k) : Hf W0 W hb H u K' := by
  obtain ⟨h1, S, h2, h3, h4⟩ := q
  exact ⟨h1, S, h2, h3, fun k e => h4 k (h k e)⟩
theorem Hf.below (q : Hf W0 W hb H u K) (hB : Below W.heap.size W W') : Hf W0 W' hb H u (fun k => K k ∨ (W.heap.size ≤ k ∧ k < W'.heap.size)) := by
  obtain ⟨h1, S, h2, h3, h4⟩ := q
  have z := hB.size
  refine ⟨h1.trans (hB.mono h1.size), S, h2.below hB, fun k e => ⟨(h3 k e).1, by have := (h3 k e).2; omega⟩, ?_⟩
  rintro k (e | e)
  · exact ⟨by have := (h4 k e).1; omega, (h4 k e).2⟩
  · exact ⟨e.2, fun e2 => by have := (h3 k e2).2; omega⟩
theorem Hf.below' (q : Hf W0 W hb H u K) (hB : Below W.heap.size W W') : Hf W0 W' hb H u K := (q.below hB).sub (fun k e => .inl e)
/-- what is kept aside may be written -/
theorem Hf.upd {D : Nat → Prop} (q : Hf W0 W hb H u K) (hU : Upd D W W') (hD : ∀ k, D k → K k ∧ W0.heap.size ≤ k) : Hf W0 W' hb H u K := by
  obtain ⟨h1, S, h2, h3, h4⟩ := q
  have z := hU.size
  refine ⟨h1.trans (hU.below h1.size (fun k e => (hD k e).2)), S, h2.on z (fun k e hl => hU.block k hl (fun d => (h4 k (hD k d).1).2 e)), fun k e => ⟨(h3 k e).1, by have := (h3 k e).2; omega⟩, fun k e => ⟨by have := (h4 k e).1; omega, (h4 k e).2⟩⟩
theorem hf_new (hB : Below W0.heap.size W0 W) (u : Nat) (hu : u ≤ 1048576) : Calls Tryz.prog 7 #[.int .i64 u] W fun e w' => ∃ hb, e = .returned (.tuple #[.pointer (some ⟨hb, 0, none⟩), .int .i64 0]) ∧ Hf W0 w' hb [] u (fun k => k < W.heap.size) ∧ Below W.heap.size W w' := by
  refine (hnew_c u hu W).mono ?_
  rintro e w' ⟨hb, rfl, hB', g⟩
  have h1 := hB.size
  have h2 := hB'.size
  exact ⟨hb, rfl, ⟨hB.trans (hB'.mono h1), _, g, fun k e => ⟨by omega, e.2⟩, fun k e => ⟨by omega, fun e2 => by omega⟩⟩, hB'⟩
/-- what may change -/
def Ch (W0 : World) (K : Nat → Prop) : Nat → Prop := fun k => ¬ K k ∧ W0.heap.size ≤ k
theorem Hf.put {S : Nat → Prop} {H' : List (Option Hc)} (h0 : Below W0.heap.size W0 W1) (h3 : ∀ k, S k → W0.heap.size ≤ k ∧ k < W1.heap.size) (h4 : ∀ k, K k → k < W1.heap.size ∧ ¬ S k) (hU : Upd S W1 W') (g : HSt W' (Nx S W1 W') hb H' u) : Hf W0 W' hb H' u K ∧ Upd (Ch W0 K) W1 W' := by
  have z := hU.size
  have z0 := h0.size
  refine ⟨⟨h0.trans (hU.below z0 (fun k e => (h3 k e).1)), _, g, ?_, fun k e => ⟨by have := (h4 k e).1; omega, ?_⟩⟩, ⟨hU.os, hU.tape, hU.output, hU.size, fun k hk hn => hU.block k hk (fun e => hn ⟨fun e2 => (h4 k e2).2 e, (h3 k e).1⟩)⟩⟩
  · rintro k (e | e)
    · exact ⟨(h3 k e).1, by have := (h3 k e).2; omega⟩
    · exact ⟨by omega, e.2⟩
  · rintro (e2 | e2)
    · exact (h4 k e).2 e2
    · have := (h4 k e).1; omega
/-- what a string needs -/
def tneed (t : ByteArray) : Nat := 1 + (t.size + 7) / 8
theorem hf_text (q : Hf W0 W1 hb H u K) (t : ByteArray) (hl : t.size ≤ 8388608) (hf : sumH H + tneed t ≤ u) (vr : Value) (rs : List Nat) (hr : WordsAt W1 vr rs) :
    Calls Tryz.prog 13 #[.pointer (some ⟨hb, 0, none⟩), .agg #[.int .i64 4, .bool false, .int .i64 0, .string t, .slice none 0 0, .slice none 0 0, .int .u64 0, .int .i64 0, .int .i64 0], vr] W1 fun e w' => e = .returned (.tuple #[.int .u64 (hw (lid H) : Nat), .int .i64 0]) ∧ Hf W0 w' hb (putH H (lid H) (some (.text (strB t)))) u K ∧ Upd (Ch W0 K) W1 w' := by
  obtain ⟨h1, S, h2, h3, h4⟩ := q
  refine (put_text h2 (fun k e => (h3 k e).2) t hl none none 0 0 vr rs hr).mono ?_
  intro e w' hP
  have hf' : sumH H + (Hc.text (strB t)).need ≤ u := by rw [text_need]; exact hf
  have hrm : roomH H u (.text (strB t)) rs = H := by unfold roomH; rw [if_pos hf']
  rw [hrm] at hP
  obtain ⟨hU, ⟨_, rfl, g⟩ | ⟨hn, _⟩⟩ := hP
  · exact ⟨rfl, Hf.put h1 h3 h4 hU g⟩
  · omega
/-- behind a string that was boxed -/
def TxtPost (W0 W1 : World) (hb : Nat) (H : List (Option Hc)) (u : Nat) (K : Nat → Prop) (t : ByteArray) (e : Ending) (w' : World) : Prop := ∃ (w : Nat) (H' : List (Option Hc)), e = .returned (.tuple #[.int .u64 (w : Nat), .int .i64 0]) ∧ Hf W0 w' hb H' u K ∧ Ext H H' ∧ IsTxt H' w t ∧ sumH H' ≤ sumH H + tneed t ∧ H'.length ≤ H.length + 1 ∧ Upd (Ch W0 K) W1 w'
theorem TxtPost.two {t : ByteArray} {e : Ending} (h : TxtPost W0 W1 hb H u K t e W') : ∃ x y, e = .returned (.tuple #[.int .u64 x, .int .i64 y]) := by
  obtain ⟨w, H', rfl, _⟩ := h
  exact ⟨_, _, rfl⟩
theorem boxText_t (q : Hf W0 W1 hb H u K) (vr : Value) (rs : List Nat) (hr : WordsAt W1 vr rs) (t : ByteArray) (hl : t.size ≤ 8388608) (hf : sumH H + tneed t ≤ u) (hH : H.length ≤ 1000000) : Calls Tryz.prog 38 #[.pointer (some ⟨hb, 0, none⟩), .string t, vr] W1 (TxtPost W0 W1 hb H u K t) := by
  by_cases hs : t.size ≤ 5
  · refine (boxText_small _ vr t hs W1).mono ?_
    rintro e w' ⟨rfl, rfl⟩
    have hb5 := cls_is5 _ (txtW_cls t hs)
    refine ⟨(txtW t).toNat, H, by rw [Int.toNat_of_nonneg (by omega)], q, Ext.refl _, .inl ⟨hs, Int.toNat_of_nonneg (by omega)⟩, by omega, by omega, Upd.refl _ _⟩
  · have cf := fromText_c t (by simp [maxLen]; omega) W1
    rw [decide_eq_false hs] at cf
    have h1 : ¬ (t.size : Int) > 8388608 := by omega
    have cp := hf_text q t hl hf vr rs hr
    have fin : Hid (∀ w2, Hf W0 w2 hb (putH H (lid H) (some (.text (strB t)))) u K → Upd (Ch W0 K) W1 w2 → TxtPost W0 W1 hb H u K t (.returned (.tuple #[.int .u64 (hw (lid H) : Nat), .int .i64 0])) w2) := by
      show ∀ w2, _
      intro w2 hq hU
      have h9 := lid_le H
      refine ⟨hw (lid H), _, rfl, hq, ext_put H _, .inr ⟨lid H, rfl, by omega, putH_self H _⟩, ?_, ?_, hU⟩
      · rw [putH_sum, text_need]; exact Nat.le_refl _
      · rw [putH_len]; split <;> omega
    generalize hw (lid H) = X at *
    clear q hr
    go_enter Tryz.func38, Tryz.ntmps38
    go_wp2_with (first | (go_at_call 76; (with_reducible refine cf.mono ?_); rintro e w' ⟨rfl, hw⟩; (have hw' := hw.symm); subst hw'; clear hw) | (go_at_call 13; (with_reducible refine cp.mono ?_); rintro e w2 ⟨rfl, hq, hU⟩; clear cp))
    go_ret2
    exact fin.out _ hq hU
theorem TxtPost.on {W2 : World} {t : ByteArray} {e : Ending} (hB : Below W1.heap.size W1 W2) (h : TxtPost W0 W2 hb H u K t e W') : TxtPost W0 W1 hb H u K t e W' := by
  obtain ⟨w, H', rfl, h1, h2, h3, h4, h5, h6⟩ := h
  exact ⟨w, H', rfl, h1, h2, h3, h4, h5, (Upd.of_below hB).trans' h6⟩
theorem boxT (q : Hf W0 W1 hb H u K) (vr : Value) (rs : List Nat) (hr : WordsAt W1 vr rs) (t : ByteArray) (hl : t.size ≤ 8388608) (hf : sumH H + tneed t ≤ u) (hH : H.length ≤ 1000000) : Calls Tryz.prog 16 #[.pointer (some ⟨hb, 0, none⟩), .agg #[.int .i64 4, .int .i64 0, .int .u64 0, .string t, .int .u64 0], vr] W1 (TxtPost W0 W1 hb H u K t) := by
  refine (box_text _ vr t (fun w e w' => TxtPost W0 w hb H u K t e w') (fun w e w' h => h.two) W1 (fun w hB => boxText_t (q.below' hB) vr rs (words_below hr hB) t hl hf hH)).mono ?_
  rintro e w' ⟨w, hB, h⟩
  exact h.on hB
end
end Go.Proofs.YtndkfjoaiinjoaaGreat.W
/- Package text: box, Concat, Sub. -/
namespace Go.Proofs.YtndkfjoaiinjoaaGreat.W
open Go.ChangeShapes Go.WideShapes Go.RowKit Go.Shelf
set_option linter.unusedVariables false
section
variable {W0 W W1 W' : World} {hb : Nat} {H : List (Option Hc)} {u : Nat} {K K' : Nat → Prop}
set_option maxRecDepth 100000 in
theorem tbox_c (q : Hf W0 W1 hb H u K) (vr vo : Value) (rs ro : List Nat) (hr : WordsAt W1 vr rs) (ho : WordsAt W1 vo ro) (hro : 0 < ro.length) (hll : rs.length + ro.length ≤ 2000000) (t : ByteArray) (hl : t.size ≤ 8388608) (hf : sumH H + tneed t ≤ u) (hH : H.length ≤ 1000000) : Calls Tryz.prog 23 #[.pointer (some ⟨hb, 0, none⟩), .string t, vr, vo] W1 (TxtPost W0 W1 hb H u K t) := by
  have hr' := hr
  have ho' := ho
  obtain ⟨o1, cap1, hvr, -⟩ := hr'
  obtain ⟨o2, cap2, hvo, -⟩ := ho'
  subst hvr
  subst hvo
  generalize hn1 : rs.length = n1 at *
  generalize hn2 : ro.length = n2 at *
  have N1 := hid hn1
  have N2 := hid hn2
  clear hn1 hn2
  have hB1 : Below W1.heap.size W1 (W1.alloc (.cells #[.slice o1 n1 cap1, .slice o2 n2 cap2] 29)) := (Below.refl _ W1).alloc (Nat.le_refl _) _
  have e0 := World.cell?_alloc_new W1 #[.slice o1 n1 cap1, .slice o2 n2 cap2] 29
  have cs := sconcat_c (W1.alloc (.cells #[.slice o1 n1 cap1, .slice o2 n2 cap2] 29)) W1.heap.size 2 (.slice o1 n1 cap1) (.slice o2 n2 cap2) rs ro (e0 0) (e0 1) (words_below hr hB1) (words_below ho hB1) (by rw [N1.out, N2.out]; exact hll) (by rw [N2.out]; exact hro)
  have cx : ∀ (w2 : World) (v : Value), Below (W1.alloc (.cells #[.slice o1 n1 cap1, .slice o2 n2 cap2] 29)).heap.size (W1.alloc (.cells #[.slice o1 n1 cap1, .slice o2 n2 cap2] 29)) w2 → WordsAt w2 v (rs ++ ro) → Calls Tryz.prog 16 #[.pointer (some ⟨hb, 0, none⟩), .agg #[.int .i64 4, .int .i64 0, .int .u64 0, .string t, .int .u64 0], v] w2 (TxtPost W0 W1 hb H u K t) := by
    intro w2 v hB2 hw2
    have hB := hB1.trans (hB2.mono hB1.size)
    exact (boxT (q.below' hB) v _ hw2 t hl hf hH).mono (fun e w' h => h.on hB)
  clear e0 hB1 q hr ho hro hll hl hf hH
  go_enter Tryz.func23, Tryz.ntmps23
  go_wp2_with (first | (go_at_call 49; (with_reducible refine cs.mono ?_); rintro e w2 ⟨v, rfl, hB2, hw2⟩; clear cs) | (go_at_call 16; (with_reducible refine (cx _ _ hB2 hw2).mono ?_); intro e w3 h3; (obtain ⟨x, y, rfl⟩ := h3.two); clear cx))
  go_ret2
  exact h3
set_option maxRecDepth 100000 in
theorem concat_c (q : Hf W0 W1 hb H u K) (vr : Value) (rs : List Nat) (hr : WordsAt W1 vr rs) (hll : rs.length ≤ 1999998) (a b : Nat) (x y : ByteArray) (hx : IsTxt H a x) (hy : IsTxt H b y) (hl : (x ++ y).size ≤ 8388608) (hf : sumH H + tneed (x ++ y) ≤ u) (hH : H.length ≤ 1000000) : Calls Tryz.prog 9 #[.pointer (some ⟨hb, 0, none⟩), .int .u64 a, .int .u64 b, vr] W1 (TxtPost W0 W1 hb H u K (x ++ y)) := by
  obtain ⟨o1, cap1, hvr, -⟩ := id hr
  subst hvr
  have ca := both_c q.2.choose_spec.1 a b x y hx hy
  have cx : ∀ (w2 : World), Below W1.heap.size W1 w2 → Calls Tryz.prog 23 #[.pointer (some ⟨hb, 0, none⟩), .string (x ++ y), .slice o1 rs.length cap1, .slice (some ⟨w2.heap.size, 0, none⟩) 2 2] (w2.alloc (.cells #[.int .u64 a, .int .u64 b] 26)) (TxtPost W0 W1 hb H u K (x ++ y)) := by
    intro w2 hB2
    have hB3 : Below w2.heap.size w2 (w2.alloc (.cells #[.int .u64 a, .int .u64 b] 26)) := (Below.refl _ w2).alloc (Nat.le_refl _) _
    have hB := hB2.trans (hB3.mono hB2.size)
    have ho : WordsAt (w2.alloc (.cells #[.int .u64 a, .int .u64 b] 26)) (.slice (some ⟨w2.heap.size, 0, none⟩) 2 2) [a, b] := by
      have e0 := World.cell?_alloc_new w2 #[.int .u64 a, .int .u64 b] 26
      refine ⟨_, _, rfl, by simp, ?_, ?_⟩
      · intro z hz
        simp at hz
        rcases hz with rfl | rfl
        · exact hx.lt
        · exact hy.lt
      · intro i hi
        refine ⟨_, rfl, ?_⟩
        have e1 : ((⟨w2.heap.size, 0, none⟩ : Addr).add i) = ⟨w2.heap.size, i, none⟩ := by unfold Addr.add; split <;> simp_all
        rw [e1, e0 i]
        have : i = 0 ∨ i = 1 := by simp at hi; omega
        rcases this with rfl | rfl <;> rfl
    exact (tbox_c (q.below' hB) _ _ rs [a, b] (words_below hr hB) ho (by simp) (by simp; omega) (x ++ y) hl hf hH).mono (fun e w' h => h.on hB)
  clear q hr hll hx hy hf hH
  have hm : ¬ 9223372036854775807 < x.size + y.size := by rw [← ByteArray.size_append]; omega
  clear hl
  go_enter Tryz.func9, Tryz.ntmps9
  go_wp2_with (first | (go_at_call 22; (with_reducible refine ca.mono ?_); rintro e w2 ⟨rfl, hB2⟩; clear ca) | (go_at_call 23; (with_reducible refine (cx _ hB2).mono ?_); intro e w3 h3; (obtain ⟨x, y, rfl⟩ := h3.two); clear cx))
  go_ret2
  exact h3
set_option maxRecDepth 100000 in
theorem sub_c (q : Hf W0 W1 hb H u K) (vr : Value) (rs : List Nat) (hr : WordsAt W1 vr rs) (hll : rs.length ≤ 1999998) (a : Nat) (x : ByteArray) (hx : IsTxt H a x) (i j : Nat) (hij : i ≤ j) (hj : j ≤ x.size) (hl : x.size ≤ 8388608) (hl2 : (x.extract i j).size ≤ 8388608) (hf : sumH H + tneed (x.extract i j) ≤ u) (hH : H.length ≤ 1000000) : Calls Tryz.prog 17 #[.pointer (some ⟨hb, 0, none⟩), .int .u64 a, .int .i64 i, .int .i64 j, vr] W1 (TxtPost W0 W1 hb H u K (x.extract i j)) := by
  obtain ⟨o1, cap1, hvr, -⟩ := id hr
  subst hvr
  have ca := of_c q.2.choose_spec.1 a x hx
  have cx : ∀ (w2 : World), Below W1.heap.size W1 w2 → Calls Tryz.prog 23 #[.pointer (some ⟨hb, 0, none⟩), .string (x.extract i j), .slice o1 rs.length cap1, .slice (some ⟨w2.heap.size, 0, none⟩) 1 1] (w2.alloc (.cells #[.int .u64 a] 26)) (TxtPost W0 W1 hb H u K (x.extract i j)) := by
    intro w2 hB2
    have hB3 : Below w2.heap.size w2 (w2.alloc (.cells #[.int .u64 a] 26)) := (Below.refl _ w2).alloc (Nat.le_refl _) _
    have hB := hB2.trans (hB3.mono hB2.size)
    have ho : WordsAt (w2.alloc (.cells #[.int .u64 a] 26)) (.slice (some ⟨w2.heap.size, 0, none⟩) 1 1) [a] := by
      have e0 := World.cell?_alloc_new w2 #[.int .u64 a] 26
      refine ⟨_, _, rfl, by simp, ?_, ?_⟩
      · intro z hz
        simp at hz
        rw [hz]; exact hx.lt
      · intro i hi
        refine ⟨_, rfl, ?_⟩
        have e1 : ((⟨w2.heap.size, 0, none⟩ : Addr).add i) = ⟨w2.heap.size, i, none⟩ := by unfold Addr.add; split <;> simp_all
        rw [e1, e0 i]
        have : i = 0 := by simp at hi; omega
        subst this; rfl
    exact (tbox_c (q.below' hB) _ _ rs [a] (words_below hr hB) ho (by simp) (by simp; omega) (x.extract i j) hl2 hf hH).mono (fun e w' h => h.on hB)
  have c0 : ¬ (i : Int) < 0 := by omega
  have c1 : ¬ (i : Int) > j := by omega
  have c2 : ¬ (j : Int) > x.size := by omega
  have c3 : (0 : Int) ≤ i := by omega
  have c4 : (i : Int) ≤ j := by omega
  have c5 : (j : Int) ≤ x.size := by omega
  have c6 : IntKind.i64.wrap (x.size : Int) = x.size := by rw [IntKind.wrap_i64]; omega
  clear q hr hll hx hf hH hij hj hl hl2
  go_enter Tryz.func17, Tryz.ntmps17
  go_wp2_with (first | (go_at_call 11; (with_reducible refine ca.mono ?_); rintro e w2 ⟨rfl, hB2⟩; clear ca) | (go_at_call 23; (with_reducible refine (cx _ hB2).mono ?_); intro e w3 h3; (obtain ⟨x, y, rfl⟩ := h3.two); clear cx))
  go_ret2
  exact h3
end
end Go.Proofs.YtndkfjoaiinjoaaGreat.W
/- casketlaw8: awake, box. -/
namespace Go.Proofs.YtndkfjoaiinjoaaGreat.W
open Go.ChangeShapes Go.WideShapes Go.RowKit Go.Shelf
set_option linter.unusedVariables false
theorem words_lit (w : World) (ws : List Nat) (hl : ws.length ≤ 1000000) (h : ∀ x ∈ ws, x < 18446744073709551616) : WordsAt (w.alloc (.cells (ws.map (fun x => Value.int .u64 (x : Nat))).toArray 26)) (.slice (some ⟨w.heap.size, 0, none⟩) ws.length ws.length) ws := by
  have e0 := World.cell?_alloc_new w (ws.map (fun x => Value.int .u64 (x : Nat))).toArray 26
  refine ⟨_, _, rfl, by omega, h, fun i hi => ⟨_, rfl, ?_⟩⟩
  have e1 : ((⟨w.heap.size, 0, none⟩ : Addr).add i) = ⟨w.heap.size, i, none⟩ := by unfold Addr.add; split <;> simp_all
  rw [e1, e0 i]
  simp [hi]
theorem words_nil' (w : World) : WordsAt w (.slice none 0 0) [] := words_nil w none 0
theorem abc_abc : (⟨#[97, 98, 99]⟩ : ByteArray) ++ ⟨#[97, 98, 99]⟩ = ⟨#[97, 98, 99, 97, 98, 99]⟩ := by decide
section
variable {W0 W W1 W' : World} {hb : Nat} {H : List (Option Hc)} {u : Nat} {K K' : Nat → Prop}
theorem lbox_c (q : Hf W0 W1 hb H u K) (vr : Value) (rs : List Nat) (hr : WordsAt W1 vr rs) (t : ByteArray) (hl : t.size ≤ 8388608) (hf : sumH H + tneed t ≤ u) (hH : H.length ≤ 1000000) : Calls Tryz.prog 8 #[.pointer (some ⟨hb, 0, none⟩), .string t, vr] W1 fun e w' => ∃ (w : Nat) (H' : List (Option Hc)), e = .returned (.tuple #[.int .u64 (w : Nat), .bool true]) ∧ Hf W0 w' hb H' u K ∧ Ext H H' ∧ IsTxt H' w t ∧ sumH H' ≤ sumH H + tneed t ∧ H'.length ≤ H.length + 1 ∧ Upd (Ch W0 K) W1 w' := by
  have cx := boxT q vr rs hr t hl hf hH
  obtain ⟨o1, cap1, hvr, -⟩ := id hr
  subst hvr
  clear q hr hl hf hH
  go_enter Tryz.func8, Tryz.ntmps8
  go_wp2_with (go_at_call 16; (with_reducible refine cx.mono ?_); rintro e w3 ⟨w, H', rfl, h3⟩; clear cx)
  go_ret2
  exact ⟨w, H', rfl, h3⟩
end
set_option maxRecDepth 100000 in
theorem awake8_c (W : World) : Calls Tryz.prog 12 #[] W fun e w' => e = .returned (.bool true) ∧ Below W.heap.size W w' := by
  have cn := hf_new (Below.refl W.heap.size W) 9 (by decide)
  rw [show ((9 : Nat) : Int) = 9 from rfl] at cn
  have cb : ∀ (W1 : World) (hb : Nat), Hf W W1 hb [] 9 (fun k => k < W.heap.size) → Calls Tryz.prog 16 #[.pointer (some ⟨hb, 0, none⟩), .agg #[.int .i64 4, .int .i64 0, .int .u64 0, .string ⟨#[97, 98, 99]⟩, .int .u64 0], .slice none 0 0] W1 (TxtPost W W1 hb [] 9 (fun k => k < W.heap.size) ⟨#[97, 98, 99]⟩) := fun W1 hb q => boxT q _ [] (words_nil' W1) _ (by decide) (by decide) (by decide)
  have cc : ∀ (W2 : World) (hb : Nat) (w : Nat) (H' : List (Option Hc)), Hf W W2 hb H' 9 (fun k => k < W.heap.size) → IsTxt H' w ⟨#[97, 98, 99]⟩ → sumH H' ≤ 2 → H'.length ≤ 1 → Calls Tryz.prog 9 #[.pointer (some ⟨hb, 0, none⟩), .int .u64 w, .int .u64 w, .slice none 0 0] W2 (TxtPost W W2 hb H' 9 (fun k => k < W.heap.size) ⟨#[97, 98, 99, 97, 98, 99]⟩) := by
    intro W2 hb w H' q h hs hl
    have tn2 : tneed ((⟨#[97, 98, 99]⟩ : ByteArray) ++ ⟨#[97, 98, 99]⟩) = 2 := by decide
    have := concat_c q _ [] (words_nil' W2) (by decide) w w _ _ h h (by decide) (by omega) (by omega)
    rwa [abc_abc] at this
  go_enter Tryz.func12, Tryz.ntmps12
  go_upto_region 4 with (go_at_call 7; (with_reducible refine cn.mono ?_); rintro e W1 ⟨hb, rfl, q1, hB1⟩; clear cn)
  have c1 := cb W1 hb q1
  clear cb
  go_upto_region 5 with (go_at_call 16; (with_reducible refine c1.mono ?_); rintro e W2 ⟨w, H2, rfl, q2, hE2, hI2, hs2, hl2, hU2⟩; clear c1)
  have tn3 : tneed ⟨#[97, 98, 99]⟩ = 2 := by decide
  have tn0 : sumH [] = 0 := rfl
  have c2 := cc W2 hb w H2 q2 hI2 (by omega) (by simpa using hl2)
  clear cc
  go_upto_region 6 with (go_at_call 9; (with_reducible refine c2.mono ?_); rintro e W3 ⟨w3, H3, rfl, q3, hE3, hI3, hs3, hl3, hU3⟩; clear c2)
  have c3 := of_c q3.2.choose_spec.1 w3 _ hI3
  have c4 : ∀ W4, Below W3.heap.size W3 W4 → _ := fun W4 hB => len_c (q3.2.choose_spec.1.below hB) w3 _ hI3
  have b3 := hid q3.1
  clear q1 q2 q3 hE2 hI2 hs2 hl2 hU2 hE3 hI3 hs3 hl3 hU3 hB1
  go_wp2_with (first | (go_at_call 11; (with_reducible refine c3.mono ?_); rintro e W4 ⟨rfl, hB4⟩; clear c3) | (go_at_call 14; (with_reducible refine (c4 _ hB4).mono ?_); rintro e W5 ⟨rfl, hB5⟩; clear c4))
  go_ret
  exact ⟨rfl, b3.out.trans ((hB4.trans (hB5.mono hB4.size)).mono b3.out.size)⟩
end Go.Proofs.YtndkfjoaiinjoaaGreat.W
/- A row of words of a statement's own, beside its heap: append. -/
namespace Go.Proofs.YtndkfjoaiinjoaaGreat.W
open Go.ChangeShapes Go.WideShapes Go.RowKit Go.Shelf
set_option linter.unusedVariables false
/-- words, as they stand in a row -/
def wds (ws : List Nat) : List Value := ws.map (fun x => .int .u64 (x : Nat))
section
variable {W0 W W1 W' : World} {hb : Nat} {H : List (Option Hc)} {u : Nat} {K K' : Nat → Prop}
theorem Hf.upd' {D : Nat → Prop} (q : Hf W0 W hb H u K) (hU : Upd D W W') (hD : ∀ k, D k → K k ∧ W0.heap.size ≤ k) : Hf W0 W' hb H u (fun k => K k ∨ (W.heap.size ≤ k ∧ k < W'.heap.size)) := by
  obtain ⟨h1, S, h2, h3, h4⟩ := q
  have z := hU.size
  refine ⟨h1.trans (hU.below h1.size (fun k e => (hD k e).2)), S, h2.on z (fun k e hl => hU.block k hl (fun d => (h4 k (hD k d).1).2 e)), fun k e => ⟨(h3 k e).1, by have := (h3 k e).2; omega⟩, ?_⟩
  rintro k (e | e)
  · exact ⟨by have := (h4 k e).1; omega, (h4 k e).2⟩
  · exact ⟨e.2, fun e2 => by have := (h3 k e2).2; omega⟩
/-- a row of words of one's own -/
structure Mine (W0 W : World) (K : Nat → Prop) (v : Value) (ws : List Nat) : Prop where
  row : W.ownsRow W0.heap.size 26 1 v ws.length (wds ws)
  keep : ∀ k, v.ownBlock = some k → K k
  lt : ∀ x ∈ ws, x < 18446744073709551616
  len : ws.length ≤ 900000
theorem Mine.words {v : Value} {ws : List Nat} (o : Mine W0 W K v ws) : WordsAt W v ws := words_own o.row (by have := o.len; omega) o.lt
theorem Mine.upd {v : Value} {ws : List Nat} (o : Mine W0 W K v ws) (hU : Upd (Ch W0 K) W W') : Mine W0 W' K v ws :=
  ⟨owns_on o.row (fun k e => hU.block k (o.row.lt k e).2 (fun h => h.1 (o.keep k e))), o.keep, o.lt, o.len⟩
theorem Mine.below {v : Value} {ws : List Nat} (o : Mine W0 W K v ws) (hB : Below W.heap.size W W') : Mine W0 W' K v ws :=
  ⟨owns_on o.row (fun k e => hB.block k (o.row.lt k e).2), o.keep, o.lt, o.len⟩
theorem Mine.sub {v : Value} {ws : List Nat} (o : Mine W0 W K v ws) (h : ∀ k, K k → K' k) : Mine W0 W K' v ws := ⟨o.row, fun k e => h k (o.keep k e), o.lt, o.len⟩
theorem mine_lit (hB : W0.heap.size ≤ W.heap.size) (ws : List Nat) (h : ∀ x ∈ ws, x < 18446744073709551616) (hl : ws.length ≤ 900000) : Mine W0 (W.alloc (.cells (wds ws).toArray 26)) (fun k => W.heap.size ≤ k ∧ k < (W.alloc (.cells (wds ws).toArray 26)).heap.size) (.slice (some ⟨W.heap.size, 0, none⟩) ws.length ws.length) ws := by
  have hz : (wds ws).length = ws.length := by unfold wds; simp
  have h1 := World.ownsRow_lit (base := W0.heap.size) (e := 26) (size := 1) W (wds ws).toArray ws.length hB (by unfold maxLen; omega) (by simp [hz])
  refine ⟨by simpa using h1, fun k e => ?_, h, hl⟩
  cases e
  exact ⟨Nat.le_refl _, by rw [World.size_alloc]; exact Nat.lt_succ_self _⟩
/-- a word is put behind -/
theorem mine_append (q : Hf W0 W hb H u K) (ty : TypeId) (v : Value) (ws : List Nat) (o : Mine W0 W K v ws) (x : Nat) (hx : x < 18446744073709551616) (hl : ws.length < 900000) :
    ∃ v' w', (Builtin.append_ #[29, 29] ty #[v, .slice (some ⟨W.heap.size, 0, none⟩) 1 1]).run Tryz.prog (W.alloc (.cells #[.int .u64 (x : Nat)] 26)) = .ok v' w' ∧ Hf W0 w' hb H u (fun k => K k ∨ (W.heap.size ≤ k ∧ k < w'.heap.size)) ∧ Mine W0 w' (fun k => K k ∨ (W.heap.size ≤ k ∧ k < w'.heap.size)) v' (ws ++ [x]) ∧ Upd (fun k => v.ownBlock = some k) W w' := by
  obtain ⟨i0, hi, hz0, hz1, hz2⟩ := info_parts infoW
  have hB1 : Below W.heap.size W (W.alloc (.cells #[.int .u64 (x : Nat)] 26)) := (Below.refl _ W).alloc (Nat.le_refl _) _
  have z1 : (W.alloc (.cells #[.int .u64 (x : Nat)] 26)).heap.size = W.heap.size + 1 := World.size_alloc ..
  have e0 := World.cell?_alloc_new W #[.int .u64 (x : Nat)] 26
  have ho := o.row.alloc (.cells #[.int .u64 (x : Nat)] 26)
  obtain ⟨v', w', hrun, ho', hg, hk⟩ := append_at (P := Tryz.prog) (W.alloc (.cells #[.int .u64 (x : Nat)] 26)) 29 ty 26 i0 (.int .u64 0) 1 8 underW hi hz0 hz1 hz2 rfl (by omega) v ws.length (wds ws) (owns_base ho (fun _ _ => Nat.zero_le _)) ⟨W.heap.size, 0, none⟩ 1 1 [.int .u64 (x : Nat)] (by simp) (by
    intro j y hj
    have hj0 : j = 0 := by have := (List.getElem?_eq_some_iff.1 hj).1; simp at this; exact this
    subst hj0
    simp at hj
    subst hj
    have e1 : ((⟨W.heap.size, 0, none⟩ : Addr).add 0) = ⟨W.heap.size, 0, none⟩ := by unfold Addr.add; split <;> simp_all
    rw [e1, e0 0]; rfl) (by intro y hy; simp at hy; rw [hy]; rfl) (by omega) (by omega) (by omega)
  have hlo : ∀ k, v.ownBlock = some k → W0.heap.size ≤ k ∧ k < W.heap.size := fun k e => o.row.lt k e
  have q0 := q.1.size
  have hU1 : Upd (fun k => v.ownBlock = some k) (W.alloc (.cells #[.int .u64 (x : Nat)] 26)) w' := (Upd.refl _ _).grown hg (fun k e => .inl e)
  have hU : Upd (fun k => v.ownBlock = some k) W w' := (Upd.of_below hB1).trans' hU1
  refine ⟨v', w', hrun, q.upd' hU (fun k e => ⟨o.keep k e, (hlo k e).1⟩), ⟨?_, ?_, ?_, by simp; omega⟩, hU⟩
  · have := owns_base ho' (b' := W0.heap.size) (fun g e => by rcases hk g e with e | e
                                                              · exact (hlo g e).1
                                                              · omega)
    unfold wds at *
    rw [List.length_append, List.map_append]
    exact this
  · intro k e
    rcases hk k e with e | e
    · exact .inl (o.keep k e)
    · exact .inr ⟨by omega, e.2⟩
  · intro y hy
    rcases List.mem_append.1 hy with h | h
    · exact o.lt y h
    · simp at h; rw [h]; exact hx
end
/-- behind casketlaw8's box -/
def LPost (W0 : World) (hb : Nat) (H : List (Option Hc)) (u : Nat) (K : Nat → Prop) (t : ByteArray) (e : Ending) (w' : World) : Prop := ∃ (w : Nat) (H' : List (Option Hc)), e = .returned (.tuple #[.int .u64 (w : Nat), .bool true]) ∧ Hf W0 w' hb H' u K ∧ Ext H H' ∧ IsTxt H' w t ∧ sumH H' ≤ sumH H + tneed t ∧ H'.length ≤ H.length + 1
section
variable {W0 W W1 W' : World} {hb : Nat} {H : List (Option Hc)} {u : Nat} {K K' : Nat → Prop}
theorem lbox0 (q : Hf W0 W1 hb H u K) (t : ByteArray) (hl : t.size ≤ 8388608) (hf : sumH H + tneed t ≤ u) (hH : H.length ≤ 1000000) : Calls Tryz.prog 8 #[.pointer (some ⟨hb, 0, none⟩), .string t, .slice none 0 0] W1 (LPost W0 hb H u K t) :=
  (lbox_c q _ [] (words_nil' W1) t hl hf hH).mono (fun e w' ⟨w, H', h1, h2, h3, h4, h5, h6, _⟩ => ⟨w, H', h1, h2, h3, h4, h5, h6⟩)
theorem lbox1 (q : Hf W0 W1 hb H u K) (x : Nat) (hx : x < 18446744073709551616) (t : ByteArray) (hl : t.size ≤ 8388608) (hf : sumH H + tneed t ≤ u) (hH : H.length ≤ 1000000) : Calls Tryz.prog 8 #[.pointer (some ⟨hb, 0, none⟩), .string t, .slice (some ⟨W1.heap.size, 0, none⟩) 1 1] (W1.alloc (.cells #[.int .u64 (x : Nat)] 26)) (LPost W0 hb H u K t) :=
  (lbox_c (q.below' ((Below.refl _ W1).alloc (Nat.le_refl _) _)) _ [x] (words_lit W1 [x] (by simp) (by intro z hz; simp at hz; rw [hz]; exact hx)) t hl hf hH).mono (fun e w' ⟨w, H', h1, h2, h3, h4, h5, h6, _⟩ => ⟨w, H', h1, h2, h3, h4, h5, h6⟩)
theorem lbox2 (q : Hf W0 W1 hb H u K) (x y : Nat) (hx : x < 18446744073709551616) (hy : y < 18446744073709551616) (t : ByteArray) (hl : t.size ≤ 8388608) (hf : sumH H + tneed t ≤ u) (hH : H.length ≤ 1000000) : Calls Tryz.prog 8 #[.pointer (some ⟨hb, 0, none⟩), .string t, .slice (some ⟨W1.heap.size, 0, none⟩) 2 2] (W1.alloc (.cells #[.int .u64 (x : Nat), .int .u64 (y : Nat)] 26)) (LPost W0 hb H u K t) :=
  (lbox_c (q.below' ((Below.refl _ W1).alloc (Nat.le_refl _) _)) _ [x, y] (words_lit W1 [x, y] (by simp) (by intro z hz; simp at hz; rcases hz with rfl | rfl; exact hx; exact hy)) t hl hf hH).mono (fun e w' ⟨w, H', h1, h2, h3, h4, h5, h6, _⟩ => ⟨w, H', h1, h2, h3, h4, h5, h6⟩)
end
theorem tn_le (t : ByteArray) (n : Nat) (h : t.size ≤ n) : tneed t ≤ 1 + (n + 7) / 8 := by unfold tneed; omega
end Go.Proofs.YtndkfjoaiinjoaaGreat.W
