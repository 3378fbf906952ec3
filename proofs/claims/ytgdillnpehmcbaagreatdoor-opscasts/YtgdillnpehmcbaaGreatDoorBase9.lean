import Derived.Test.YtgdillnpehmcbaaGreatDoorBase8
import Derived.Laws.FloatArith
import Derived.Deep.Draws
import Derived.Laws.NewFold
import Derived.Test.YtgdillnpehmcbaaGreatDoorProg
import Derived.WalkKit
import Derived.WalkLawsBesides
import Derived.Laws.Externs
import Derived.Laws.BitsAllLaws
import Derived.KernelRfl
import Derived.Deep.QuietTactic
import Derived.BigQuiet
import Derived.Sort.Grow
import Derived.Shelf.SlSortCmp.QuietGrown
import Derived.Deep.RegionHeld3
import Derived.RowKit3
import Derived.Below
/- A heap that a statement made itself, and what it keeps beside it; Box of a string; Concat, Sub. -/
namespace Go.Proofs.YtgdillnpehmcbaaGreatDoor.W
open Go.ChangeShapes Go.WideShapes Go.RowKit Go.Shelf
set_option linter.unusedVariables false
/-- a heap that was made behind W0; what K names is none of its -/
def Hf (W0 W : World) (hb : Nat) (H : List (Option Hc)) (u : Nat) (K : Nat → Prop) : Prop := Below W0.heap.size W0 W ∧ ∃ S, HSt W S hb H u ∧ (∀ k, S k → W0.heap.size ≤ k ∧ k < W.heap.size) ∧ (∀ k, K k → k < W.heap.size ∧ ¬ S k)
section
variable {W0 W W1 W' : World} {hb : Nat} {H : List (Option Hc)} {u : Nat} {K K' : Nat → Prop}
theorem Hf.bel (q : Hf W0 W hb H u K) : Below W0.heap.size W0 W := q.1
theorem Hf.sub (q : Hf W0 W hb H u K) (h : ∀ k, K' k → K k) : Hf W0 W hb H u K' := by
  obtain ⟨h1, S, h2, h3, h4⟩ := q
  exact ⟨h1, S, h2, h3, fun k e => h4 k (h k e)⟩
theorem Hf.below (q : Hf W0 W hb H u K) (hB : Below W.heap.size W W') : Hf W0 W' hb H u (fun k => K k ∨ (W.heap.size ≤ k ∧ k < W'.heap.size)) := by
  obtain ⟨h1, S, h2, h3, h4⟩ := q
  have z := hB.size
  refine ⟨h1.trans (hB.mono h1.size), S, h2.below hB, fun k e => ⟨(h3 k e).1, by have := (h3 k e).2; omega⟩, ?_⟩
  rintro k (e | e)
  · exact ⟨by have := (h4 k e).1; omega, (h4 k e).2⟩
  · exact ⟨e.2, fun e2 => by have := (h3 k e2).2; omega⟩
theorem Hf.below' (q : Hf W0 W hb H u K) (hB : Below W.heap.size W W') : Hf W0 W' hb H u K := (q.below hB).sub (fun k e => .inl e)
/-- what is kept aside may be written -/
theorem Hf.upd {D : Nat → Prop} (q : Hf W0 W hb H u K) (hU : Upd D W W') (hD : ∀ k, D k → K k ∧ W0.heap.size ≤ k) : Hf W0 W' hb H u K := by
  obtain ⟨h1, S, h2, h3, h4⟩ := q
  have z := hU.size
  refine ⟨h1.trans (hU.below h1.size (fun k e => (hD k e).2)), S, h2.on z (fun k e hl => hU.block k hl (fun d => (h4 k (hD k d).1).2 e)), fun k e => ⟨(h3 k e).1, by have := (h3 k e).2; omega⟩, fun k e => ⟨by have := (h4 k e).1; omega, (h4 k e).2⟩⟩
theorem hf_new (hB : Below W0.heap.size W0 W) (u : Nat) (hu : u ≤ 1048576) : Calls Tryz.prog 4 #[.int .i64 u] W fun e w' => ∃ hb, e = .returned (.tuple #[.pointer (some ⟨hb, 0, none⟩), .int .i64 0]) ∧ Hf W0 w' hb [] u (fun k => k < W.heap.size) ∧ Below W.heap.size W w' := by
  refine (hnew_c u hu W).mono ?_
  rintro e w' ⟨hb, rfl, hB', g⟩
  have h1 := hB.size
  have h2 := hB'.size
  exact ⟨hb, rfl, ⟨hB.trans (hB'.mono h1), _, g, fun k e => ⟨by omega, e.2⟩, fun k e => ⟨by omega, fun e2 => by omega⟩⟩, hB'⟩
/-- what may change -/
def Ch (W0 : World) (K : Nat → Prop) : Nat → Prop := fun k => ¬ K k ∧ W0.heap.size ≤ k
theorem Hf.put {S : Nat → Prop} {H' : List (Option Hc)} (h0 : Below W0.heap.size W0 W1) (h3 : ∀ k, S k → W0.heap.size ≤ k ∧ k < W1.heap.size) (h4 : ∀ k, K k → k < W1.heap.size ∧ ¬ S k) (hU : Upd S W1 W') (g : HSt W' (Nx S W1 W') hb H' u) : Hf W0 W' hb H' u K ∧ Upd (Ch W0 K) W1 W' := by
  have z := hU.size
  have z0 := h0.size
  refine ⟨⟨h0.trans (hU.below z0 (fun k e => (h3 k e).1)), _, g, ?_, fun k e => ⟨by have := (h4 k e).1; omega, ?_⟩⟩, ⟨hU.os, hU.tape, hU.output, hU.size, fun k hk hn => hU.block k hk (fun e => hn ⟨fun e2 => (h4 k e2).2 e, (h3 k e).1⟩)⟩⟩
  · rintro k (e | e)
    · exact ⟨(h3 k e).1, by have := (h3 k e).2; omega⟩
    · exact ⟨by omega, e.2⟩
  · rintro (e2 | e2)
    · exact (h4 k e).2 e2
    · have := (h4 k e).1; omega
/-- what a string needs -/
def tneed (t : ByteArray) : Nat := 1 + (t.size + 7) / 8
theorem hf_text (q : Hf W0 W1 hb H u K) (t : ByteArray) (hl : t.size ≤ 8388608) (hf : sumH H + tneed t ≤ u) (vr : Value) (rs : List Nat) (hr : WordsAt W1 vr rs) :
    Calls Tryz.prog 63 #[.pointer (some ⟨hb, 0, none⟩), .agg #[.int .i64 4, .bool false, .int .i64 0, .string t, .slice none 0 0, .slice none 0 0, .int .u64 0, .int .i64 0, .int .i64 0], vr] W1 fun e w' => e = .returned (.tuple #[.int .u64 (hw (lid H) : Nat), .int .i64 0]) ∧ Hf W0 w' hb (putH H (lid H) (some (.text (strB t)))) u K ∧ Upd (Ch W0 K) W1 w' := by
  obtain ⟨h1, S, h2, h3, h4⟩ := q
  refine (put_text h2 (fun k e => (h3 k e).2) t hl none none 0 0 vr rs hr).mono ?_
  intro e w' hP
  have hf' : sumH H + (Hc.text (strB t)).need ≤ u := by rw [text_need]; exact hf
  have hrm : roomH H u (.text (strB t)) rs = H := by unfold roomH; rw [if_pos hf']
  rw [hrm] at hP
  obtain ⟨hU, ⟨_, rfl, g⟩ | ⟨hn, _⟩⟩ := hP
  · exact ⟨rfl, Hf.put h1 h3 h4 hU g⟩
  · omega
/-- behind a string that was boxed -/
def TxtPost (W0 W1 : World) (hb : Nat) (H : List (Option Hc)) (u : Nat) (K : Nat → Prop) (t : ByteArray) (e : Ending) (w' : World) : Prop := ∃ (w : Nat) (H' : List (Option Hc)), e = .returned (.tuple #[.int .u64 (w : Nat), .int .i64 0]) ∧ Hf W0 w' hb H' u K ∧ Ext H H' ∧ IsTxt H' w t ∧ sumH H' ≤ sumH H + tneed t ∧ H'.length ≤ H.length + 1 ∧ Upd (Ch W0 K) W1 w'
theorem TxtPost.two {t : ByteArray} {e : Ending} (h : TxtPost W0 W1 hb H u K t e W') : ∃ x y, e = .returned (.tuple #[.int .u64 x, .int .i64 y]) := by
  obtain ⟨w, H', rfl, _⟩ := h
  exact ⟨_, _, rfl⟩
theorem boxText_t (q : Hf W0 W1 hb H u K) (vr : Value) (rs : List Nat) (hr : WordsAt W1 vr rs) (t : ByteArray) (hl : t.size ≤ 8388608) (hf : sumH H + tneed t ≤ u) (hH : H.length ≤ 1000000) : Calls Tryz.prog 27 #[.pointer (some ⟨hb, 0, none⟩), .string t, vr] W1 (TxtPost W0 W1 hb H u K t) := by
  by_cases hs : t.size ≤ 5
  · refine (boxText_small _ vr t hs W1).mono ?_
    rintro e w' ⟨rfl, rfl⟩
    have hb5 := cls_is5 _ (txtW_cls t hs)
    refine ⟨(txtW t).toNat, H, by rw [Int.toNat_of_nonneg (by omega)], q, Ext.refl _, .inl ⟨hs, Int.toNat_of_nonneg (by omega)⟩, by omega, by omega, Upd.refl _ _⟩
  · have cf := fromText_c t (by simp [maxLen]; omega) W1
    rw [decide_eq_false hs] at cf
    have h1 : ¬ (t.size : Int) > 8388608 := by omega
    have cp := hf_text q t hl hf vr rs hr
    have fin : Hid (∀ w2, Hf W0 w2 hb (putH H (lid H) (some (.text (strB t)))) u K → Upd (Ch W0 K) W1 w2 → TxtPost W0 W1 hb H u K t (.returned (.tuple #[.int .u64 (hw (lid H) : Nat), .int .i64 0])) w2) := by
      show ∀ w2, _
      intro w2 hq hU
      have h9 := lid_le H
      refine ⟨hw (lid H), _, rfl, hq, ext_put H _, .inr ⟨lid H, rfl, by omega, putH_self H _⟩, ?_, ?_, hU⟩
      · rw [putH_sum, text_need]; exact Nat.le_refl _
      · rw [putH_len]; split <;> omega
    generalize hw (lid H) = X at *
    clear q hr
    go_enter Tryz.func27, Tryz.ntmps27
    go_wp2_with (first | (go_at_call 65; (with_reducible refine cf.mono ?_); rintro e w' ⟨rfl, hw⟩; (have hw' := hw.symm); subst hw'; clear hw) | (go_at_call 63; (with_reducible refine cp.mono ?_); rintro e w2 ⟨rfl, hq, hU⟩; clear cp))
    go_ret2
    exact fin.out _ hq hU
theorem TxtPost.on {W2 : World} {t : ByteArray} {e : Ending} (hB : Below W1.heap.size W1 W2) (h : TxtPost W0 W2 hb H u K t e W') : TxtPost W0 W1 hb H u K t e W' := by
  obtain ⟨w, H', rfl, h1, h2, h3, h4, h5, h6⟩ := h
  exact ⟨w, H', rfl, h1, h2, h3, h4, h5, (Upd.of_below hB).trans' h6⟩
theorem boxT (q : Hf W0 W1 hb H u K) (vr : Value) (rs : List Nat) (hr : WordsAt W1 vr rs) (t : ByteArray) (hl : t.size ≤ 8388608) (hf : sumH H + tneed t ≤ u) (hH : H.length ≤ 1000000) : Calls Tryz.prog 13 #[.pointer (some ⟨hb, 0, none⟩), .agg #[.int .i64 4, .int .i64 0, .int .u64 0, .string t, .int .u64 0], vr] W1 (TxtPost W0 W1 hb H u K t) := by
  refine (box_text _ vr t (fun w e w' => TxtPost W0 w hb H u K t e w') (fun w e w' h => h.two) W1 (fun w hB => boxText_t (q.below' hB) vr rs (words_below hr hB) t hl hf hH)).mono ?_
  rintro e w' ⟨w, hB, h⟩
  exact h.on hB
end
end Go.Proofs.YtgdillnpehmcbaaGreatDoor.W
/- Package text: box, Concat, Sub. -/
namespace Go.Proofs.YtgdillnpehmcbaaGreatDoor.W
open Go.ChangeShapes Go.WideShapes Go.RowKit Go.Shelf
set_option linter.unusedVariables false
section
variable {W0 W W1 W' : World} {hb : Nat} {H : List (Option Hc)} {u : Nat} {K K' : Nat → Prop}
set_option maxRecDepth 100000 in
theorem tbox_c (q : Hf W0 W1 hb H u K) (vr vo : Value) (rs ro : List Nat) (hr : WordsAt W1 vr rs) (ho : WordsAt W1 vo ro) (hro : 0 < ro.length) (hll : rs.length + ro.length ≤ 1000000) (t : ByteArray) (hl : t.size ≤ 8388608) (hf : sumH H + tneed t ≤ u) (hH : H.length ≤ 1000000) : Calls Tryz.prog 142 #[.pointer (some ⟨hb, 0, none⟩), .string t, vr, vo] W1 (TxtPost W0 W1 hb H u K t) := by
  have hr' := hr
  have ho' := ho
  obtain ⟨o1, cap1, hvr, -⟩ := hr'
  obtain ⟨o2, cap2, hvo, -⟩ := ho'
  subst hvr
  subst hvo
  generalize hn1 : rs.length = n1 at *
  generalize hn2 : ro.length = n2 at *
  have N1 := hid hn1
  have N2 := hid hn2
  clear hn1 hn2
  have hB1 : Below W1.heap.size W1 (W1.alloc (.cells #[.slice o1 n1 cap1, .slice o2 n2 cap2] 31)) := (Below.refl _ W1).alloc (Nat.le_refl _) _
  have e0 := World.cell?_alloc_new W1 #[.slice o1 n1 cap1, .slice o2 n2 cap2] 31
  have cs := sconcat_c (W1.alloc (.cells #[.slice o1 n1 cap1, .slice o2 n2 cap2] 31)) W1.heap.size 2 (.slice o1 n1 cap1) (.slice o2 n2 cap2) rs ro (e0 0) (e0 1) (words_below hr hB1) (words_below ho hB1) (by rw [N1.out, N2.out]; exact hll) (by rw [N2.out]; exact hro)
  have cx : ∀ (w2 : World) (v : Value), Below (W1.alloc (.cells #[.slice o1 n1 cap1, .slice o2 n2 cap2] 31)).heap.size (W1.alloc (.cells #[.slice o1 n1 cap1, .slice o2 n2 cap2] 31)) w2 → WordsAt w2 v (rs ++ ro) → Calls Tryz.prog 13 #[.pointer (some ⟨hb, 0, none⟩), .agg #[.int .i64 4, .int .i64 0, .int .u64 0, .string t, .int .u64 0], v] w2 (TxtPost W0 W1 hb H u K t) := by
    intro w2 v hB2 hw2
    have hB := hB1.trans (hB2.mono hB1.size)
    exact (boxT (q.below' hB) v _ hw2 t hl hf hH).mono (fun e w' h => h.on hB)
  clear e0 hB1 q hr ho hro hll hl hf hH
  go_enter Tryz.func142, Tryz.ntmps142
  go_wp2_with (first | (go_at_call 44; (with_reducible refine cs.mono ?_); rintro e w2 ⟨v, rfl, hB2, hw2⟩; clear cs) | (go_at_call 13; (with_reducible refine (cx _ _ hB2 hw2).mono ?_); intro e w3 h3; (obtain ⟨x, y, rfl⟩ := h3.two); clear cx))
  go_ret2
  exact h3
set_option maxRecDepth 100000 in
theorem concat_c (q : Hf W0 W1 hb H u K) (vr : Value) (rs : List Nat) (hr : WordsAt W1 vr rs) (hll : rs.length ≤ 999998) (a b : Nat) (x y : ByteArray) (hx : IsTxt H a x) (hy : IsTxt H b y) (hl : (x ++ y).size ≤ 8388608) (hf : sumH H + tneed (x ++ y) ≤ u) (hH : H.length ≤ 1000000) : Calls Tryz.prog 94 #[.pointer (some ⟨hb, 0, none⟩), .int .u64 a, .int .u64 b, vr] W1 (TxtPost W0 W1 hb H u K (x ++ y)) := by
  obtain ⟨o1, cap1, hvr, -⟩ := id hr
  subst hvr
  have ca := both_c q.2.choose_spec.1 a b x y hx hy
  have cx : ∀ (w2 : World), Below W1.heap.size W1 w2 → Calls Tryz.prog 142 #[.pointer (some ⟨hb, 0, none⟩), .string (x ++ y), .slice o1 rs.length cap1, .slice (some ⟨w2.heap.size, 0, none⟩) 2 2] (w2.alloc (.cells #[.int .u64 a, .int .u64 b] 22)) (TxtPost W0 W1 hb H u K (x ++ y)) := by
    intro w2 hB2
    have hB3 : Below w2.heap.size w2 (w2.alloc (.cells #[.int .u64 a, .int .u64 b] 22)) := (Below.refl _ w2).alloc (Nat.le_refl _) _
    have hB := hB2.trans (hB3.mono hB2.size)
    have ho : WordsAt (w2.alloc (.cells #[.int .u64 a, .int .u64 b] 22)) (.slice (some ⟨w2.heap.size, 0, none⟩) 2 2) [a, b] := by
      have e0 := World.cell?_alloc_new w2 #[.int .u64 a, .int .u64 b] 22
      refine ⟨_, _, rfl, by simp, ?_, ?_⟩
      · intro z hz
        simp at hz
        rcases hz with rfl | rfl
        · exact hx.lt
        · exact hy.lt
      · intro i hi
        refine ⟨_, rfl, ?_⟩
        have e1 : ((⟨w2.heap.size, 0, none⟩ : Addr).add i) = ⟨w2.heap.size, i, none⟩ := by unfold Addr.add; split <;> simp_all
        rw [e1, e0 i]
        have : i = 0 ∨ i = 1 := by simp at hi; omega
        rcases this with rfl | rfl <;> rfl
    exact (tbox_c (q.below' hB) _ _ rs [a, b] (words_below hr hB) ho (by simp) (by simp; omega) (x ++ y) hl hf hH).mono (fun e w' h => h.on hB)
  clear q hr hll hx hy hf hH
  have hm : ¬ 9223372036854775807 < x.size + y.size := by rw [← ByteArray.size_append]; omega
  clear hl
  go_enter Tryz.func94, Tryz.ntmps94
  go_wp2_with (first | (go_at_call 152; (with_reducible refine ca.mono ?_); rintro e w2 ⟨rfl, hB2⟩; clear ca) | (go_at_call 142; (with_reducible refine (cx _ hB2).mono ?_); intro e w3 h3; (obtain ⟨x, y, rfl⟩ := h3.two); clear cx))
  go_ret2
  exact h3
set_option maxRecDepth 100000 in
theorem sub_c (q : Hf W0 W1 hb H u K) (vr : Value) (rs : List Nat) (hr : WordsAt W1 vr rs) (hll : rs.length ≤ 999998) (a : Nat) (x : ByteArray) (hx : IsTxt H a x) (i j : Nat) (hij : i ≤ j) (hj : j ≤ x.size) (hl : x.size ≤ 8388608) (hl2 : (x.extract i j).size ≤ 8388608) (hf : sumH H + tneed (x.extract i j) ≤ u) (hH : H.length ≤ 1000000) : Calls Tryz.prog 76 #[.pointer (some ⟨hb, 0, none⟩), .int .u64 a, .int .i64 i, .int .i64 j, vr] W1 (TxtPost W0 W1 hb H u K (x.extract i j)) := by
  obtain ⟨o1, cap1, hvr, -⟩ := id hr
  subst hvr
  have ca := of_c q.2.choose_spec.1 a x hx
  have cx : ∀ (w2 : World), Below W1.heap.size W1 w2 → Calls Tryz.prog 142 #[.pointer (some ⟨hb, 0, none⟩), .string (x.extract i j), .slice o1 rs.length cap1, .slice (some ⟨w2.heap.size, 0, none⟩) 1 1] (w2.alloc (.cells #[.int .u64 a] 22)) (TxtPost W0 W1 hb H u K (x.extract i j)) := by
    intro w2 hB2
    have hB3 : Below w2.heap.size w2 (w2.alloc (.cells #[.int .u64 a] 22)) := (Below.refl _ w2).alloc (Nat.le_refl _) _
    have hB := hB2.trans (hB3.mono hB2.size)
    have ho : WordsAt (w2.alloc (.cells #[.int .u64 a] 22)) (.slice (some ⟨w2.heap.size, 0, none⟩) 1 1) [a] := by
      have e0 := World.cell?_alloc_new w2 #[.int .u64 a] 22
      refine ⟨_, _, rfl, by simp, ?_, ?_⟩
      · intro z hz
        simp at hz
        rw [hz]; exact hx.lt
      · intro i hi
        refine ⟨_, rfl, ?_⟩
        have e1 : ((⟨w2.heap.size, 0, none⟩ : Addr).add i) = ⟨w2.heap.size, i, none⟩ := by unfold Addr.add; split <;> simp_all
        rw [e1, e0 i]
        have : i = 0 := by simp at hi; omega
        subst this; rfl
    exact (tbox_c (q.below' hB) _ _ rs [a] (words_below hr hB) ho (by simp) (by simp; omega) (x.extract i j) hl2 hf hH).mono (fun e w' h => h.on hB)
  have c0 : ¬ (i : Int) < 0 := by omega
  have c1 : ¬ (i : Int) > j := by omega
  have c2 : ¬ (j : Int) > x.size := by omega
  have c3 : (0 : Int) ≤ i := by omega
  have c4 : (i : Int) ≤ j := by omega
  have c5 : (j : Int) ≤ x.size := by omega
  have c6 : IntKind.i64.wrap (x.size : Int) = x.size := by rw [IntKind.wrap_i64]; omega
  clear q hr hll hx hf hH hij hj hl hl2
  go_enter Tryz.func76, Tryz.ntmps76
  go_wp2_with (first | (go_at_call 141; (with_reducible refine ca.mono ?_); rintro e w2 ⟨rfl, hB2⟩; clear ca) | (go_at_call 142; (with_reducible refine (cx _ hB2).mono ?_); intro e w3 h3; (obtain ⟨x, y, rfl⟩ := h3.two); clear cx))
  go_ret2
  exact h3
end
end Go.Proofs.YtgdillnpehmcbaaGreatDoor.W
/- casketlaw8: awake, box. -/
namespace Go.Proofs.YtgdillnpehmcbaaGreatDoor.W
open Go.ChangeShapes Go.WideShapes Go.RowKit Go.Shelf
set_option linter.unusedVariables false
theorem words_lit (w : World) (ws : List Nat) (hl : ws.length ≤ 1000000) (h : ∀ x ∈ ws, x < 18446744073709551616) : WordsAt (w.alloc (.cells (ws.map (fun x => Value.int .u64 (x : Nat))).toArray 22)) (.slice (some ⟨w.heap.size, 0, none⟩) ws.length ws.length) ws := by
  have e0 := World.cell?_alloc_new w (ws.map (fun x => Value.int .u64 (x : Nat))).toArray 22
  refine ⟨_, _, rfl, by omega, h, fun i hi => ⟨_, rfl, ?_⟩⟩
  have e1 : ((⟨w.heap.size, 0, none⟩ : Addr).add i) = ⟨w.heap.size, i, none⟩ := by unfold Addr.add; split <;> simp_all
  rw [e1, e0 i]
  simp [hi]
theorem words_nil' (w : World) : WordsAt w (.slice none 0 0) [] := words_nil w none 0
theorem abc_abc : (⟨#[97, 98, 99]⟩ : ByteArray) ++ ⟨#[97, 98, 99]⟩ = ⟨#[97, 98, 99, 97, 98, 99]⟩ := by decide
section
variable {W0 W W1 W' : World} {hb : Nat} {H : List (Option Hc)} {u : Nat} {K K' : Nat → Prop}
end
end Go.Proofs.YtgdillnpehmcbaaGreatDoor.W
/- A row of words of a statement's own, beside its heap: append. -/
namespace Go.Proofs.YtgdillnpehmcbaaGreatDoor.W
open Go.ChangeShapes Go.WideShapes Go.RowKit Go.Shelf
set_option linter.unusedVariables false
/-- words, as they stand in a row -/
def wds (ws : List Nat) : List Value := ws.map (fun x => .int .u64 (x : Nat))
section
variable {W0 W W1 W' : World} {hb : Nat} {H : List (Option Hc)} {u : Nat} {K K' : Nat → Prop}
theorem Hf.upd' {D : Nat → Prop} (q : Hf W0 W hb H u K) (hU : Upd D W W') (hD : ∀ k, D k → K k ∧ W0.heap.size ≤ k) : Hf W0 W' hb H u (fun k => K k ∨ (W.heap.size ≤ k ∧ k < W'.heap.size)) := by
  obtain ⟨h1, S, h2, h3, h4⟩ := q
  have z := hU.size
  refine ⟨h1.trans (hU.below h1.size (fun k e => (hD k e).2)), S, h2.on z (fun k e hl => hU.block k hl (fun d => (h4 k (hD k d).1).2 e)), fun k e => ⟨(h3 k e).1, by have := (h3 k e).2; omega⟩, ?_⟩
  rintro k (e | e)
  · exact ⟨by have := (h4 k e).1; omega, (h4 k e).2⟩
  · exact ⟨e.2, fun e2 => by have := (h3 k e2).2; omega⟩
/-- a row of words of one's own -/
structure Mine (W0 W : World) (K : Nat → Prop) (v : Value) (ws : List Nat) : Prop where
  row : W.ownsRow W0.heap.size 22 1 v ws.length (wds ws)
  keep : ∀ k, v.ownBlock = some k → K k
  lt : ∀ x ∈ ws, x < 18446744073709551616
  len : ws.length ≤ 900000
theorem Mine.words {v : Value} {ws : List Nat} (o : Mine W0 W K v ws) : WordsAt W v ws := words_own o.row (by have := o.len; omega) o.lt
theorem Mine.upd {v : Value} {ws : List Nat} (o : Mine W0 W K v ws) (hU : Upd (Ch W0 K) W W') : Mine W0 W' K v ws :=
  ⟨owns_on o.row (fun k e => hU.block k (o.row.lt k e).2 (fun h => h.1 (o.keep k e))), o.keep, o.lt, o.len⟩
theorem Mine.below {v : Value} {ws : List Nat} (o : Mine W0 W K v ws) (hB : Below W.heap.size W W') : Mine W0 W' K v ws :=
  ⟨owns_on o.row (fun k e => hB.block k (o.row.lt k e).2), o.keep, o.lt, o.len⟩
theorem Mine.sub {v : Value} {ws : List Nat} (o : Mine W0 W K v ws) (h : ∀ k, K k → K' k) : Mine W0 W K' v ws := ⟨o.row, fun k e => h k (o.keep k e), o.lt, o.len⟩
theorem mine_nil (W0 W : World) (K : Nat → Prop) : Mine W0 W K (.slice none 0 0) [] := ⟨World.ownsRow_nil _ _ _ _, fun k e => (by cases e), fun x h => (by cases h), by decide⟩
theorem mine_lit (hB : W0.heap.size ≤ W.heap.size) (ws : List Nat) (h : ∀ x ∈ ws, x < 18446744073709551616) (hl : ws.length ≤ 900000) : Mine W0 (W.alloc (.cells (wds ws).toArray 22)) (fun k => W.heap.size ≤ k ∧ k < (W.alloc (.cells (wds ws).toArray 22)).heap.size) (.slice (some ⟨W.heap.size, 0, none⟩) ws.length ws.length) ws := by
  have hz : (wds ws).length = ws.length := by unfold wds; simp
  have h1 := World.ownsRow_lit (base := W0.heap.size) (e := 22) (size := 1) W (wds ws).toArray ws.length hB (by unfold maxLen; omega) (by simp [hz])
  refine ⟨by simpa using h1, fun k e => ?_, h, hl⟩
  cases e
  exact ⟨Nat.le_refl _, by rw [World.size_alloc]; exact Nat.lt_succ_self _⟩
/-- a word is put behind -/
theorem mine_append (q : Hf W0 W hb H u K) (ty : TypeId) (v : Value) (ws : List Nat) (o : Mine W0 W K v ws) (x : Nat) (hx : x < 18446744073709551616) (hl : ws.length < 900000) :
    ∃ v' w', (Builtin.append_ #[31, 31] ty #[v, .slice (some ⟨W.heap.size, 0, none⟩) 1 1]).run Tryz.prog (W.alloc (.cells #[.int .u64 (x : Nat)] 22)) = .ok v' w' ∧ Hf W0 w' hb H u (fun k => K k ∨ (W.heap.size ≤ k ∧ k < w'.heap.size)) ∧ Mine W0 w' (fun k => K k ∨ (W.heap.size ≤ k ∧ k < w'.heap.size)) v' (ws ++ [x]) ∧ Upd (fun k => v.ownBlock = some k) W w' := by
  obtain ⟨i0, hi, hz0, hz1, hz2⟩ := info_parts infoW
  have hB1 : Below W.heap.size W (W.alloc (.cells #[.int .u64 (x : Nat)] 22)) := (Below.refl _ W).alloc (Nat.le_refl _) _
  have z1 : (W.alloc (.cells #[.int .u64 (x : Nat)] 22)).heap.size = W.heap.size + 1 := World.size_alloc ..
  have e0 := World.cell?_alloc_new W #[.int .u64 (x : Nat)] 22
  have ho := o.row.alloc (.cells #[.int .u64 (x : Nat)] 22)
  obtain ⟨v', w', hrun, ho', hg, hk⟩ := append_at (P := Tryz.prog) (W.alloc (.cells #[.int .u64 (x : Nat)] 22)) 31 ty 22 i0 (.int .u64 0) 1 8 underW hi hz0 hz1 hz2 rfl (by omega) v ws.length (wds ws) (owns_base ho (fun _ _ => Nat.zero_le _)) ⟨W.heap.size, 0, none⟩ 1 1 [.int .u64 (x : Nat)] (by simp) (by
    intro j y hj
    have hj0 : j = 0 := by have := (List.getElem?_eq_some_iff.1 hj).1; simp at this; exact this
    subst hj0
    simp at hj
    subst hj
    have e1 : ((⟨W.heap.size, 0, none⟩ : Addr).add 0) = ⟨W.heap.size, 0, none⟩ := by unfold Addr.add; split <;> simp_all
    rw [e1, e0 0]; rfl) (by intro y hy; simp at hy; rw [hy]; rfl) (by omega) (by omega) (by omega)
  have hlo : ∀ k, v.ownBlock = some k → W0.heap.size ≤ k ∧ k < W.heap.size := fun k e => o.row.lt k e
  have q0 := q.1.size
  have hU1 : Upd (fun k => v.ownBlock = some k) (W.alloc (.cells #[.int .u64 (x : Nat)] 22)) w' := (Upd.refl _ _).grown hg (fun k e => .inl e)
  have hU : Upd (fun k => v.ownBlock = some k) W w' := (Upd.of_below hB1).trans' hU1
  refine ⟨v', w', hrun, q.upd' hU (fun k e => ⟨o.keep k e, (hlo k e).1⟩), ⟨?_, ?_, ?_, by simp; omega⟩, hU⟩
  · have := owns_base ho' (b' := W0.heap.size) (fun g e => by rcases hk g e with e | e
                                                              · exact (hlo g e).1
                                                              · omega)
    unfold wds at *
    rw [List.length_append, List.map_append]
    exact this
  · intro k e
    rcases hk k e with e | e
    · exact .inl (o.keep k e)
    · exact .inr ⟨by omega, e.2⟩
  · intro y hy
    rcases List.mem_append.1 hy with h | h
    · exact o.lt y h
    · simp at h; rw [h]; exact hx
end
/-- behind casketlaw8's box -/
def LPost (W0 : World) (hb : Nat) (H : List (Option Hc)) (u : Nat) (K : Nat → Prop) (t : ByteArray) (e : Ending) (w' : World) : Prop := ∃ (w : Nat) (H' : List (Option Hc)), e = .returned (.tuple #[.int .u64 (w : Nat), .bool true]) ∧ Hf W0 w' hb H' u K ∧ Ext H H' ∧ IsTxt H' w t ∧ sumH H' ≤ sumH H + tneed t ∧ H'.length ≤ H.length + 1
section
variable {W0 W W1 W' : World} {hb : Nat} {H : List (Option Hc)} {u : Nat} {K K' : Nat → Prop}
end
theorem tn_le (t : ByteArray) (n : Nat) (h : t.size ≤ n) : tneed t ≤ 1 + (n + 7) / 8 := by unfold tneed; omega
end Go.Proofs.YtgdillnpehmcbaaGreatDoor.W
/- Box, told whole: of numbers, doubles and strings, beside what is kept; what all of it takes. -/
namespace Go.Proofs.YtgdillnpehmcbaaGreatDoor.W
open Go.ChangeShapes Go.WideShapes Go.RowKit Go.Shelf
set_option linter.unusedVariables false
/-- each cell is a root -/
def AllR (H : List (Option Hc)) (ws : List Nat) : Prop := ∀ (i : Nat) (c : Hc), H[i]? = some (some c) → ∃ w ∈ ws, hit H w = some i
theorem hit_ext {H H' : List (Option Hc)} (he : Ext H H') {w i : Nat} (h : hit H w = some i) : hit H' w = some i := by
  unfold hit at h ⊢
  split at h
  · rename_i c
    cases h
    have : ∃ x, H[w % 281474976710656]? = some (some x) := by
      have c2 := c.2
      cases e : H[w % 281474976710656]? with
      | none => rw [e] at c2; cases c2
      | some o => cases o with
        | none => rw [e] at c2; cases c2
        | some x => exact ⟨x, rfl⟩
    obtain ⟨x, hx⟩ := this
    rw [if_pos ⟨c.1, by rw [he _ _ hx]; rfl⟩]
  · cases h
theorem allR_put {H : List (Option Hc)} {ws : List Nat} (h : AllR H ws) (c : Hc) (hl : lid H < 281474976710656) : AllR (putH H (lid H) (some c)) (ws ++ [hw (lid H)]) := by
  intro i x hx
  by_cases e : i = lid H
  · subst e
    exact ⟨hw (lid H), by simp, hit_hw hl (putH_self H _)⟩
  · rw [putH_ne H _ i e] at hx
    obtain ⟨w, hw1, hw2⟩ := h i x hx
    exact ⟨w, List.mem_append_left _ hw1, hit_ext (ext_put H c) hw2⟩
theorem allR_snoc {H : List (Option Hc)} {ws : List Nat} (h : AllR H ws) (w : Nat) : AllR H (ws ++ [w]) := by
  intro i x hx
  obtain ⟨v, h1, h2⟩ := h i x hx
  exact ⟨v, List.mem_append_left _ h1, h2⟩
theorem allR_reach {H : List (Option Hc)} {ws : List Nat} (h : AllR H ws) : reachN H ws = sumH H := by
  have := zip_all (H := H) (ws := ws) (fun i c hc => by obtain ⟨w, h1, h2⟩ := h i c hc; exact .root w i h1 h2)
  unfold reachN
  rw [← zipK_sum, this]
/-- a word of a whole number -/
def IsInt (H : List (Option Hc)) (w : Nat) (i : Int) : Prop := (smallB i = true ∧ (w : Int) = intW i) ∨ ∃ id, w = hw id ∧ id < 281474976710656 ∧ H[id]? = some (some (.num i))
theorem IsInt.ext {H H' : List (Option Hc)} {w : Nat} {i : Int} (h : IsInt H w i) (he : Ext H H') : IsInt H' w i := by
  rcases h with h | ⟨id, h1, h2, h3⟩
  · exact .inl h
  · exact .inr ⟨id, h1, h2, he _ _ h3⟩
theorem IsInt.cls {H : List (Option Hc)} {w : Nat} {i : Int} (h : IsInt H w i) : ¬ cls (w : Int) = 7 := by
  rcases h with ⟨h1, h2⟩ | ⟨id, rfl, h2, h3⟩
  · rw [h2, intW_cls i h1]; decide
  · rw [cls_hw id h2]; decide
theorem IsTxt.cls {H : List (Option Hc)} {w : Nat} {t : ByteArray} (h : IsTxt H w t) : ¬ W.cls (w : Int) = 7 := by
  rcases h with ⟨h1, h2⟩ | ⟨id, rfl, h2, h3⟩
  · rw [h2, txtW_cls t h1]; decide
  · rw [cls_hw id h2]; decide
/-- what a whole number takes -/
def nI (i : Int) : Nat := if smallB i = true then 0 else 2
/-- what a string takes -/
def nT (t : ByteArray) : Nat := if t.size ≤ 5 then 0 else tneed t
theorem num_need (i : Int) : (Hc.num i).need = 2 := by
  unfold Hc.need
  rw [show (Hc.num i).bytes.length = 8 from le8_len _]
/-- behind a value that was boxed -/
def BPost (W0 W1 : World) (hb : Nat) (H : List (Option Hc)) (u : Nat) (K : Nat → Prop) (V : List (Option Hc) → Nat → Prop) (n : Nat) (e : Ending) (w' : World) : Prop := ∃ (w : Nat) (H' : List (Option Hc)), e = .returned (.tuple #[.int .u64 (w : Nat), .int .i64 0]) ∧ Hf W0 w' hb H' u K ∧ Ext H H' ∧ V H' w ∧ sumH H' = sumH H + n ∧ H'.length ≤ H.length + 1 ∧ (∀ ws, AllR H ws → AllR H' (ws ++ [w])) ∧ w < 18446744073709551616 ∧ Upd (Ch W0 K) W1 w'
section
variable {W0 W W1 W' : World} {hb : Nat} {H : List (Option Hc)} {u : Nat} {K K' : Nat → Prop}
theorem BPost.two {V : List (Option Hc) → Nat → Prop} {n : Nat} {e : Ending} (h : BPost W0 W1 hb H u K V n e W') : ∃ x y, e = .returned (.tuple #[.int .u64 x, .int .i64 y]) := by
  obtain ⟨w, H', rfl, _⟩ := h
  exact ⟨_, _, rfl⟩
theorem BPost.on {W2 : World} {V : List (Option Hc) → Nat → Prop} {n : Nat} {e : Ending} (hB : Below W1.heap.size W1 W2) (h : BPost W0 W2 hb H u K V n e W') : BPost W0 W1 hb H u K V n e W' := by
  obtain ⟨w, H', rfl, h1, h2, h3, h4, h5, h6, h7, h8⟩ := h
  exact ⟨w, H', rfl, h1, h2, h3, h4, h5, h6, h7, (Upd.of_below hB).trans' h8⟩
theorem hf_num (q : Hf W0 W1 hb H u K) (i : Int) (h0 : -9223372036854775808 ≤ i) (h1 : i < 9223372036854775808) (hf : sumH H + 2 ≤ u) (vr : Value) (rs : List Nat) (hr : WordsAt W1 vr rs) :
    Calls Tryz.prog 63 #[.pointer (some ⟨hb, 0, none⟩), .agg #[.int .i64 2, .bool false, .int .i64 i, .string ⟨#[]⟩, .slice none 0 0, .slice none 0 0, .int .u64 0, .int .i64 0, .int .i64 0], vr] W1 fun e w' => e = .returned (.tuple #[.int .u64 (hw (lid H) : Nat), .int .i64 0]) ∧ Hf W0 w' hb (putH H (lid H) (some (.num i))) u K ∧ Upd (Ch W0 K) W1 w' := by
  obtain ⟨g1, S, h2, h3, h4⟩ := q
  refine (put_num h2 (fun k e => (h3 k e).2) i h0 h1 none none 0 0 vr rs hr).mono ?_
  intro e w' hP
  have hf' : sumH H + (Hc.num i).need ≤ u := by rw [num_need]; exact hf
  have hrm : roomH H u (.num i) rs = H := by unfold roomH; rw [if_pos hf']
  rw [hrm] at hP
  obtain ⟨hU, ⟨_, rfl, g⟩ | ⟨hn, _⟩⟩ := hP
  · exact ⟨rfl, Hf.put g1 h3 h4 hU g⟩
  · omega
theorem boxInt_b (q : Hf W0 W1 hb H u K) (vr : Value) (rs : List Nat) (hr : WordsAt W1 vr rs) (i : Int) (h0 : -9223372036854775808 ≤ i) (h1 : i ≤ 9223372036854775807) (hf : sumH H + 2 ≤ u) (hH : H.length ≤ 1000000) : Calls Tryz.prog 25 #[.pointer (some ⟨hb, 0, none⟩), .int .i64 i, vr] W1 (BPost W0 W1 hb H u K (fun H' w => IsInt H' w i) (nI i)) := by
  by_cases hs : smallB i = true
  · refine (boxInt_small _ vr i h0 h1 hs W1).mono ?_
    rintro e w' ⟨rfl, rfl⟩
    have hbd := intW_bd i hs
    exact ⟨(intW i).toNat, H, by rw [Int.toNat_of_nonneg (by omega)], q, Ext.refl _, .inl ⟨hs, Int.toNat_of_nonneg (by omega)⟩, by unfold nI; rw [if_pos hs]; omega, by omega, fun ws h => allR_snoc h _, by omega, Upd.refl _ _⟩
  · have cf := fromInt_c i h0 h1 W1
    have hs' : smallB i = false := by simpa using hs
    rw [hs'] at cf
    have cp := hf_num q i h0 (by omega) hf vr rs hr
    have fin : Hid (∀ w2, Hf W0 w2 hb (putH H (lid H) (some (.num i))) u K → Upd (Ch W0 K) W1 w2 → BPost W0 W1 hb H u K (fun H' w => IsInt H' w i) (nI i) (.returned (.tuple #[.int .u64 (hw (lid H) : Nat), .int .i64 0])) w2) := by
      show ∀ w2, _
      intro w2 hq hU
      have h9 := lid_le H
      refine ⟨hw (lid H), _, rfl, hq, ext_put H _, .inr ⟨lid H, rfl, by omega, putH_self H _⟩, ?_, ?_, fun ws h => allR_put h _ (by omega), hw_lt _ (by omega), hU⟩
      · unfold nI; rw [putH_sum, num_need, if_neg hs]
      · rw [putH_len]; split <;> omega
    generalize hw (lid H) = X at *
    clear q hr hs
    go_enter Tryz.func25, Tryz.ntmps25
    go_wp2_with (first | (go_at_call 62; (with_reducible refine cf.mono ?_); rintro e w' ⟨rfl, hw⟩; (have hw' := hw.symm); subst hw'; clear hw) | (go_at_call 63; (with_reducible refine cp.mono ?_); rintro e w2 ⟨rfl, hq, hU⟩; clear cp))
    go_ret2
    exact fin.out _ hq hU
theorem boxI (q : Hf W0 W1 hb H u K) (vr : Value) (rs : List Nat) (hr : WordsAt W1 vr rs) (i : Int) (h0 : -9223372036854775808 ≤ i) (h1 : i ≤ 9223372036854775807) (hf : sumH H + 2 ≤ u) (hH : H.length ≤ 1000000) : Calls Tryz.prog 13 #[.pointer (some ⟨hb, 0, none⟩), .agg #[.int .i64 2, .int .i64 i, .int .u64 0, .string ⟨#[]⟩, .int .u64 0], vr] W1 (BPost W0 W1 hb H u K (fun H' w => IsInt H' w i) (nI i)) := by
  refine (box_int _ vr i (fun w e w' => BPost W0 w hb H u K (fun H' w => IsInt H' w i) (nI i) e w') (fun w e w' h => h.two) W1 (fun w hB => boxInt_b (q.below' hB) vr rs (words_below hr hB) i h0 h1 hf hH)).mono ?_
  rintro e w' ⟨w, hB, h⟩
  exact h.on hB
theorem boxF (q : Hf W0 W1 hb H u K) (vr : Value) (bi : Int) (h0 : 0 ≤ bi) (h1 : bi < 18446744073709551616) : Calls Tryz.prog 13 #[.pointer (some ⟨hb, 0, none⟩), .agg #[.int .i64 3, .int .i64 0, .int .u64 bi, .string ⟨#[]⟩, .int .u64 0], vr] W1 (BPost W0 W1 hb H u K (fun _ w => (w : Int) = fltW bi) 0) := by
  refine (box_float _ vr bi h0 h1 W1).mono ?_
  rintro e w' ⟨rfl, hB⟩
  have hbd := fltW_bd bi h0 h1
  exact ⟨(fltW bi).toNat, H, by rw [Int.toNat_of_nonneg hbd.1], q.below' hB, Ext.refl _, Int.toNat_of_nonneg hbd.1, by omega, by omega, fun ws h => allR_snoc h _, by omega, Upd.of_below hB⟩
theorem boxText_b (q : Hf W0 W1 hb H u K) (vr : Value) (rs : List Nat) (hr : WordsAt W1 vr rs) (t : ByteArray) (hl : t.size ≤ 8388608) (hf : sumH H + tneed t ≤ u) (hH : H.length ≤ 1000000) : Calls Tryz.prog 27 #[.pointer (some ⟨hb, 0, none⟩), .string t, vr] W1 (BPost W0 W1 hb H u K (fun H' w => IsTxt H' w t) (nT t)) := by
  by_cases hs : t.size ≤ 5
  · refine (boxText_small _ vr t hs W1).mono ?_
    rintro e w' ⟨rfl, rfl⟩
    have hb5 := cls_is5 _ (txtW_cls t hs)
    exact ⟨(txtW t).toNat, H, by rw [Int.toNat_of_nonneg (by omega)], q, Ext.refl _, .inl ⟨hs, Int.toNat_of_nonneg (by omega)⟩, by unfold nT; rw [if_pos hs]; omega, by omega, fun ws h => allR_snoc h _, by omega, Upd.refl _ _⟩
  · have cf := fromText_c t (by simp [maxLen]; omega) W1
    rw [decide_eq_false hs] at cf
    have h1 : ¬ (t.size : Int) > 8388608 := by omega
    have cp := hf_text q t hl hf vr rs hr
    have fin : Hid (∀ w2, Hf W0 w2 hb (putH H (lid H) (some (.text (strB t)))) u K → Upd (Ch W0 K) W1 w2 → BPost W0 W1 hb H u K (fun H' w => IsTxt H' w t) (nT t) (.returned (.tuple #[.int .u64 (hw (lid H) : Nat), .int .i64 0])) w2) := by
      show ∀ w2, _
      intro w2 hq hU
      have h9 := lid_le H
      refine ⟨hw (lid H), _, rfl, hq, ext_put H _, .inr ⟨lid H, rfl, by omega, putH_self H _⟩, ?_, ?_, fun ws h => allR_put h _ (by omega), hw_lt _ (by omega), hU⟩
      · unfold nT; rw [putH_sum, text_need, if_neg hs]; rfl
      · rw [putH_len]; split <;> omega
    generalize hw (lid H) = X at *
    clear q hr hs
    go_enter Tryz.func27, Tryz.ntmps27
    go_wp2_with (first | (go_at_call 65; (with_reducible refine cf.mono ?_); rintro e w' ⟨rfl, hw⟩; (have hw' := hw.symm); subst hw'; clear hw) | (go_at_call 63; (with_reducible refine cp.mono ?_); rintro e w2 ⟨rfl, hq, hU⟩; clear cp))
    go_ret2
    exact fin.out _ hq hU
theorem boxS (q : Hf W0 W1 hb H u K) (vr : Value) (rs : List Nat) (hr : WordsAt W1 vr rs) (t : ByteArray) (hl : t.size ≤ 8388608) (hf : sumH H + tneed t ≤ u) (hH : H.length ≤ 1000000) : Calls Tryz.prog 13 #[.pointer (some ⟨hb, 0, none⟩), .agg #[.int .i64 4, .int .i64 0, .int .u64 0, .string t, .int .u64 0], vr] W1 (BPost W0 W1 hb H u K (fun H' w => IsTxt H' w t) (nT t)) := by
  refine (box_text _ vr t (fun w e w' => BPost W0 w hb H u K (fun H' w => IsTxt H' w t) (nT t) e w') (fun w e w' h => h.two) W1 (fun w hB => boxText_b (q.below' hB) vr rs (words_below hr hB) t hl hf hH)).mono ?_
  rintro e w' ⟨w, hB, h⟩
  exact h.on hB
theorem unbox_int {S : Nat → Prop} (q : HSt W1 S hb H u) (w : Nat) (i : Int) (h : IsInt H w i) :
    Calls Tryz.prog 18 #[.pointer (some ⟨hb, 0, none⟩), .int .u64 w] W1 fun e w' => e = .returned (.tuple #[.agg #[.int .i64 2, .int .i64 i, .int .u64 0, .string ⟨#[]⟩, .int .u64 0], .int .i64 0]) ∧ Below W1.heap.size W1 w' := by
  rcases h with ⟨h1, h2⟩ | ⟨id, rfl, h2, h3⟩
  · rw [h2]; exact unbox_sint i h1 _ W1
  · obtain ⟨sb, vc, T, l, _⟩ := q
    exact unbox_num l (hw id) (hw_lt id h2) (cls_hw id h2) id (hit_hw h2 h3) i h3
/-- a copy of a row of words -/
theorem copy_run (ty : TypeId) (v : Value) (ws : List Nat) (h : WordsAt W1 v ws) (hl : ws.length ≤ 900000) : ∃ v' w', (Builtin.append_ #[31, 31] ty #[.slice (some ⟨W1.heap.size, 0, none⟩) 0 0, v]).run Tryz.prog (W1.alloc (.cells #[] 22)) = .ok v' w' ∧ WordsAt w' v' ws ∧ Below W1.heap.size W1 w' := by
  have hB1 : Below W1.heap.size W1 (W1.alloc (.cells #[] 22)) := (Below.refl _ W1).alloc (Nat.le_refl _) _
  have h0 := World.ownsRow_lit (base := W1.heap.size) (e := 22) (size := 1) W1 #[] 0 (Nat.le_refl _) (by simp) (by simp)
  obtain ⟨v', w', hrun, ho, hg⟩ := app_words (W1.alloc (.cells #[] 22)) W1.heap.size ty hB1.size (.slice (some ⟨W1.heap.size, 0, none⟩) 0 0) 0 [] h0 v ws (words_below h hB1) (by omega)
  have hU : Upd (fun k => W1.heap.size ≤ k) (W1.alloc (.cells #[] 22)) w' := (Upd.refl _ _).grown hg (fun k e => .inl (by cases e; exact Nat.le_refl _))
  have h64 := h.choose_spec.choose_spec.2.2.1
  refine ⟨v', w', hrun, words_own (B := W1.heap.size) (by simpa using ho) (by omega) h64, hB1.trans (hU.below hB1.size (fun k e => e))⟩
end
end Go.Proofs.YtgdillnpehmcbaaGreatDoor.W
/- Plain facts on words of IEEE 754: what a word reads as, that what is written is no NaN, how two words compare. No Go in sight. -/
namespace Go.Proofs.YtgdillnpehmcbaaGreatDoor.W.Nu
open Ieee

/-- is a pattern a NaN? -/
def nanB (n : Int) : Bool := decide (9218868437227405312 < n % 9223372036854775808)
/-- the one NaN that is answered -/
def canon : Int := 9221120237041090560
/-- a pattern, with all NaNs made one -/
def fltW (n : Int) : Int := if nanB n = true then 9221120237041090560 else n

theorem D_sign : Ieee.double.signWeight = 9223372036854775808 := by decide
theorem D_bin : Ieee.double.binade = 4503599627370496 := by decide
theorem D_inf : Ieee.double.infRung = 9218868437227405312 := by decide
theorem D_least : Ieee.double.leastPlace = -1074 := by decide
theorem D_width : Ieee.double.width = 64 := by decide

theorem word_eq (s : Bool) (r : Nat) : Ieee.double.word s r = (if s then 9223372036854775808 else 0) + r := by
  unfold Format.word
  rw [D_sign]
  cases s <;> simp

theorem read_eq (x : Nat) : Ieee.double.read x =
    if x % 9223372036854775808 < 4503599627370496 then .number (x / 9223372036854775808 % 2 == 1) (x % 9223372036854775808) (-1074)
    else if x % 9223372036854775808 < 9218868437227405312 then
      .number (x / 9223372036854775808 % 2 == 1) (4503599627370496 + x % 9223372036854775808 % 4503599627370496) (-1074 + (x % 9223372036854775808 / 4503599627370496 - 1 : Nat))
    else if x % 9223372036854775808 = 9218868437227405312 then .infinity (x / 9223372036854775808 % 2 == 1)
    else .nan (x / 9223372036854775808 % 2 == 1) (x % 9223372036854775808 - 9218868437227405312) := by
  unfold Format.read
  simp only [D_sign, D_bin, D_inf, D_least]

theorem nan_read (x : Nat) : (Ieee.double.read x).isNaN = nanB x := by
  rw [read_eq, nanB]
  have e : ((x : Int) % 9223372036854775808) = ((x % 9223372036854775808 : Nat) : Int) := by omega
  rw [e]
  split
  · rename_i h; simp [Datum.isNaN]; omega
  · split
    · rename_i h; simp [Datum.isNaN]; omega
    · split
      · rename_i h; simp [Datum.isNaN]; omega
      · rename_i h1 h2 h3; simp [Datum.isNaN]; omega

theorem order_self (d : Datum) : (d.order d != some .eq) = d.isNaN := by
  cases d with
  | number s m i => simp [Datum.order, Datum.isNaN, compare, compareOfLessAndEq]
  | infinity s => cases s <;> rfl
  | nan s t => rfl

theorem isNaN_eq (x : Nat) : (Ieee.double.order x x != some .eq) = nanB x := by
  rw [← nan_read]; exact order_self _

/-- a word whose rung is not above infinity's is no NaN -/
theorem word_plain (s : Bool) (r : Nat) (h : r ≤ 9218868437227405312) : nanB (Ieee.double.word s r : Nat) = false := by
  rw [word_eq, nanB]
  cases s <;> simp <;> omega
theorem nearest_plain (s : Bool) (m : Nat) (p : Int) : nanB (Ieee.double.nearest s m p : Nat) = false := by
  unfold Format.nearest
  split
  · exact word_plain _ _ (by omega)
  · rw [D_inf]; exact word_plain _ _ (Nat.min_le_right ..)
theorem write_plain (d : Datum) (h : d.isNaN = false) : nanB (Ieee.double.write d : Nat) = false := by
  cases d with
  | number s m p => exact nearest_plain s m p
  | infinity s => exact word_plain s _ (by rw [D_inf]; omega)
  | nan s t => exact absurd h (by simp [Datum.isNaN])
theorem write_lt (d : Datum) : Ieee.double.write d < 18446744073709551616 := by
  have := Ieee.double.write_lt d
  rwa [D_width] at this

theorem sum_plain {a b d : Datum} (h : a.sum b = some d) : d.isNaN = false := by
  cases a <;> cases b <;> simp [Datum.sum] at h <;> (try (rcases h with ⟨_, h⟩)) <;> (try subst h) <;> rfl
theorem product_plain {a b d : Datum} (h : a.product b = some d) : d.isNaN = false := by
  cases a <;> cases b <;> simp [Datum.product] at h <;> (try (rcases h with ⟨_, h⟩)) <;> (try subst h) <;> rfl
theorem quotient_plain {k : Nat} {a b d : Datum} (h : a.quotient k b = some d) : d.isNaN = false := by
  cases a with
  | nan s t => simp [Datum.quotient] at h
  | infinity s => cases b <;> simp [Datum.quotient] at h <;> subst h <;> rfl
  | number s m i =>
    cases b with
    | nan t u => simp [Datum.quotient] at h
    | infinity t => simp [Datum.quotient] at h; subst h; rfl
    | number t n j =>
      simp only [Datum.quotient] at h
      split at h
      · split at h
        · cases h
        · cases h; rfl
      · cases h; rfl

theorem floatBits_plain {op : BinOp} {x y r : Nat} (h : floatBits op .f64 x y = some r) : nanB (r : Int) = false := by
  unfold floatBits at h
  have go : ∀ o : Option Datum, (∀ d, o = some d → d.isNaN = false) → o.map Ieee.double.write = some r → nanB (r : Int) = false := by
    intro o ho hm
    cases o with
    | none => cases hm
    | some d => cases hm; exact write_plain d (ho d rfl)
  split at h
  · exact go _ (fun d => sum_plain) h
  · exact go _ (fun d => sum_plain) h
  · exact go _ (fun d => product_plain) h
  · exact go _ (fun d => quotient_plain) h
  · cases h
theorem floatBits_lt {op : BinOp} {x y r : Nat} (h : floatBits op .f64 x y = some r) : r < 18446744073709551616 := by
  have := floatBits_wf h
  simpa [Lit.wf] using this

/-- a NaN that the tape names is a NaN -/
theorem nanBits_nan (x y t : Nat) : nanB ((Question.nanBits .f64 x y).cut t : Nat) = true := by
  show decide (9218868437227405312 < (((t % 2) * 9223372036854775808 + 9218868437227405312 + 1 + (t / 2) % 4503599627370495 : Nat) : Int) % 9223372036854775808) = true
  rw [decide_eq_true_eq]
  have h1 : t / 2 % 4503599627370495 < 4503599627370495 := Nat.mod_lt _ (by omega)
  have h2 : t % 2 = 0 ∨ t % 2 = 1 := by omega
  generalize t / 2 % 4503599627370495 = q at *
  generalize t % 2 = s at *
  rcases h2 with rfl | rfl <;> omega
theorem nanBits_lt (x y t : Nat) : (Question.nanBits .f64 x y).cut t < 18446744073709551616 := by
  show (t % 2) * 9223372036854775808 + 9218868437227405312 + 1 + (t / 2) % 4503599627370495 < _
  omega

/-- what an operation on two patterns answers -/
def opI (op : BinOp) (a b : Int) : Int := match floatBits op .f64 a.toNat b.toNat with | some r => (r : Int) | none => 9221120237041090560
theorem opI_range (op : BinOp) (a b : Int) : 0 ≤ opI op a b ∧ opI op a b < 18446744073709551616 := by
  unfold opI
  split
  · rename_i r h; have := floatBits_lt h; omega
  · omega
theorem opI_plain (op : BinOp) (a b : Int) : nanB (opI op a b) = true → opI op a b = 9221120237041090560 := by
  unfold opI
  split
  · rename_i r h; intro hn; rw [floatBits_plain h] at hn; cases hn
  · intro _; rfl

/-! ### the walk's laws -/
/-- what '+', '-', '*', '/' on doubles give: the bits, or a NaN that the tape names -/
def fres (op : BinOp) (x y : Nat) (w : World) : Nat :=
  match floatBits op .f64 x y with | some r => r | none => (Question.nanBits .f64 x y).cut (w.tape w.drawn (.nanBits .f64 x y))
def fdraw (op : BinOp) (x y : Nat) : Nat := match floatBits op .f64 x y with | some _ => 0 | none => 1
theorem fres_lt (op : BinOp) (x y : Nat) (w : World) : fres op x y w < 18446744073709551616 := by
  unfold fres
  split
  · rename_i r h; exact floatBits_lt h
  · exact nanBits_lt ..
theorem fltW_fres (op : BinOp) (a b : Int) (w : World) : fltW (fres op a.toNat b.toNat w : Nat) = opI op a b := by
  unfold fres opI
  split
  · rename_i r h; rw [fltW, floatBits_plain h]; simp
  · rw [fltW, nanBits_nan]; simp

theorem run_fop (P : Program) (op : BinOp) (hop : op = .add ∨ op = .sub ∨ op = .mul ∨ op = .quo) (t : TypeId) (x y : Nat) (w : World) :
    (binOp op t (.float .f64 x) (.float .f64 y)).run P w = .ok (.float .f64 (fres op x y w)) (w.drewN (fdraw op x y)) := by
  cases h : floatBits op .f64 x y with
  | some r =>
    rw [run_float_arith w op t .f64 x y r h]
    simp [fres, fdraw, h, World.drewN_zero]
  | none =>
    have e1 : fres op x y w = (Question.nanBits .f64 x y).cut (w.tape w.drawn (.nanBits .f64 x y)) := by simp [fres, h]
    have e2 : fdraw op x y = 1 := by simp [fdraw, h]
    rw [e1, e2]
    rcases hop with rfl | rfl | rfl | rfl <;> simp only [floatBits] at h <;> simp [binOp, Op.floatArith, h, World.drew_is_drewN, Question.forced]

/-! ### Floor, and widths -/
theorem nan_write (s : Bool) (t : Nat) (h : t % 4503599627370496 ≠ 0) : nanB (Ieee.double.write (.nan s t) : Nat) = true := by
  have e : Ieee.double.write (.nan s t) = Ieee.double.word s (Ieee.double.infRung + t % Ieee.double.binade) := rfl
  rw [e, word_eq, D_inf, D_bin, nanB, decide_eq_true_eq]
  have : t % 4503599627370496 < 4503599627370496 := Nat.mod_lt _ (by omega)
  cases s <;> simp <;> omega
theorem quiet_mod (t : Nat) : Ieee.double.quiet t % 4503599627370496 ≠ 0 := by
  have e : Ieee.double.quiet t = t ||| 2 ^ 51 := rfl
  rw [e]
  intro h
  have h1 : ((t ||| 2 ^ 51) % 2 ^ 52).testBit 51 = true := by
    rw [Nat.testBit_mod_two_pow, Nat.testBit_or, Nat.testBit_two_pow_self]
    simp
  rw [show (2 : Nat) ^ 52 = 4503599627370496 from by decide, h] at h1
  simp at h1

/-- what Floor answers -/
def floorI (a : Int) : Int := if nanB a = true then 9221120237041090560 else (Ieee.double.write ((Ieee.double.read a.toNat).integral .down) : Nat)
/-- what the machine's own floor hands back: of a NaN that is not quiet the tape says which NaN -/
def flres (P : Program) (x : Nat) (w : World) : Nat :=
  match (Extern.MathFloor.toIntegral "math.archFloor" .down #[.float .f64 x]).run P w with
  | .ok (.float _ r) _ => r
  | _ => 0
def fldraw (x : Nat) : Nat :=
  match Ieee.double.read x with
  | .nan _ t => if Ieee.double.quiet t = t then 0 else 1
  | _ => 0
theorem integral_plain (way : Toward) (d : Datum) : (d.integral way).isNaN = d.isNaN := by cases d <;> rfl
/-- the entry's text, with the question that it asks of a NaN that is not quiet -/
theorem floor_text : ∃ q : Question, (∀ x, Extern.MathFloor.toIntegral "math.archFloor" .down #[.float .f64 x] =
      (match Ieee.double.read x with
      | .nan s t =>
        if Ieee.double.quiet t = t then pure (.float .f64 x) else do
        let kept ← choose q
        pure (.float .f64 (if kept == 1 then x else Ieee.double.write (.nan s (Ieee.double.quiet t))))
      | d => pure (.float .f64 (Ieee.double.write (d.integral .down))) : Sem Value)) ∧ q.forced = false :=
  ⟨_, fun _ => rfl, rfl⟩
theorem floor_run (P : Program) (x : Nat) (w : World) : ∃ r, (Extern.MathFloor.toIntegral "math.archFloor" .down #[.float .f64 x]).run P w = .ok (.float .f64 r) (w.drewN (fldraw x)) ∧
    (x < 18446744073709551616 → r < 18446744073709551616) ∧ (nanB (x : Nat) = true → nanB (r : Nat) = true) ∧ (nanB (x : Nat) = false → r = Ieee.double.write ((Ieee.double.read x).integral .down)) := by
  have hn := nan_read x
  obtain ⟨q, hq, hf⟩ := floor_text
  rw [hq x]
  unfold fldraw
  cases hd : Ieee.double.read x with
  | number s m i =>
    rw [hd] at hn
    refine ⟨Ieee.double.write ((Datum.number s m i).integral .down), by simp [World.drewN_zero], fun _ => write_lt _, fun h => ?_, fun _ => rfl⟩
    rw [← hn] at h; cases h
  | infinity s =>
    rw [hd] at hn
    refine ⟨Ieee.double.write ((Datum.infinity s).integral .down), by simp [World.drewN_zero], fun _ => write_lt _, fun h => ?_, fun _ => rfl⟩
    rw [← hn] at h; cases h
  | nan s t =>
    rw [hd] at hn
    have hn' : nanB (x : Nat) = true := by rw [← hn]; rfl
    have h2 : nanB (Ieee.double.write (.nan s (Ieee.double.quiet t)) : Nat) = true := nan_write s _ (quiet_mod t)
    by_cases h : Ieee.double.quiet t = t
    · refine ⟨x, by simp [h, World.drewN_zero], fun hx => hx, fun _ => hn', fun g => ?_⟩
      rw [hn'] at g; cases g
    · refine ⟨if q.cut (w.tape w.drawn q) == 1 then x else Ieee.double.write (.nan s (Ieee.double.quiet t)), by simp [h, hf, World.drew_is_drewN], ?_, ?_, fun g => ?_⟩
      · intro hx; split
        · exact hx
        · exact write_lt _
      · intro _; split
        · exact hn'
        · exact h2
      · rw [hn'] at g; cases g
theorem flres_eq (P : Program) (x : Nat) (w : World) : (Extern.MathFloor.toIntegral "math.archFloor" .down #[.float .f64 x]).run P w = .ok (.float .f64 (flres P x w)) (w.drewN (fldraw x)) ∧
    (x < 18446744073709551616 → flres P x w < 18446744073709551616) ∧ (nanB (x : Nat) = true → nanB (flres P x w : Nat) = true) ∧ (nanB (x : Nat) = false → flres P x w = Ieee.double.write ((Ieee.double.read x).integral .down)) := by
  obtain ⟨r, h1, h2, h3, h4⟩ := floor_run P x w
  have e : flres P x w = r := by unfold flres; rw [h1]
  rw [e]
  exact ⟨h1, h2, h3, h4⟩
theorem fltW_flres (P : Program) (a : Int) (h0 : 0 ≤ a) (w : World) : fltW (flres P a.toNat w : Nat) = floorI a := by
  obtain ⟨-, -, h3, h4⟩ := flres_eq P a.toNat w
  rw [Int.toNat_of_nonneg h0] at h3 h4
  unfold floorI
  cases hn : nanB a with
  | true => rw [fltW, h3 hn, if_pos rfl, if_pos rfl]
  | false =>
    rw [h4 hn]
    have hp : nanB (Ieee.double.write ((Ieee.double.read a.toNat).integral .down) : Nat) = false := write_plain _ (by rw [integral_plain, nan_read, Int.toNat_of_nonneg h0, hn])
    rw [fltW, hp]
theorem flres_lt (P : Program) (x : Nat) (hx : x < 18446744073709551616) (w : World) : flres P x w < 18446744073709551616 := (flres_eq P x w).2.1 hx
theorem floorI_range (a : Int) : 0 ≤ floorI a ∧ floorI a < 18446744073709551616 := by
  unfold floorI
  split
  · omega
  · have := write_lt ((Ieee.double.read a.toNat).integral .down); omega
theorem run_floor (P : Program) (x : Nat) (w : World) :
    (Extern.MathFloor.toIntegral "math.archFloor" .down #[.float .f64 x]).run P w = .ok (.float .f64 (flres P x w)) (w.drewN (fldraw x)) := (flres_eq P x w).1

/-- what Wide answers -/
def wideI (n : Int) : Int := if (Ieee.single.read n.toNat).isNaN = true then 9221120237041090560 else (Ieee.double.write (Ieee.single.read n.toNat) : Nat)
def wres (x : Nat) (w : World) : Nat :=
  match Ieee.single.read x with
  | .nan _ _ => (Question.nanConv .f64 x).cut (w.tape w.drawn (.nanConv .f64 x))
  | d => Ieee.double.write d
def wdraw (x : Nat) : Nat := if (Ieee.single.read x).isNaN = true then 1 else 0
theorem wideI_range (a : Int) : 0 ≤ wideI a ∧ wideI a < 18446744073709551616 := by
  unfold wideI
  split
  · omega
  · have := write_lt (Ieee.single.read a.toNat); omega
theorem nanConv_nan (x t : Nat) : nanB ((Question.nanConv .f64 x).cut t : Nat) = true := nanBits_nan x x t
theorem nanConv_lt (x t : Nat) : (Question.nanConv .f64 x).cut t < 18446744073709551616 := nanBits_lt x x t
theorem wres_lt (x : Nat) (w : World) : wres x w < 18446744073709551616 := by
  unfold wres
  split
  · exact nanConv_lt ..
  · exact write_lt _
theorem fltW_wres (n : Int) (w : World) : fltW (wres n.toNat w : Nat) = wideI n := by
  unfold wres wideI
  cases Ieee.single.read n.toNat with
  | nan s t => simp [fltW, nanConv_nan, Datum.isNaN]
  | number s m i => simp [fltW, write_plain (.number s m i) rfl, Datum.isNaN]
  | infinity s => simp [fltW, write_plain (.infinity s) rfl, Datum.isNaN]
/-- a word of a wider format has room for every number of the narrower one -/
theorem run_wide (P : Program) (src dst : TypeId) (x : Nat) (hs : (P.underlying src).isSome = true) (hd : P.underlying dst = some (.float .f64))
    (hfin : ∀ s m i, Ieee.single.read x = .number s m i → (Ieee.double.read (Ieee.double.write (.number s m i))).isInfinity = false) (w : World) :
    (convert src dst (.float .f32 x)).run P w = .ok (.float .f64 (wres x w)) (w.drewN (wdraw x)) := by
  obtain ⟨u, hs'⟩ := Option.isSome_iff_exists.1 hs
  have e : (convert src dst (.float .f32 x)).run P w = (Conv.floatToFloat .f32 x .f64).run P w := by
    cases u <;> simp [convert, run_underlying hs', run_underlying hd]
  rw [e]
  unfold wres wdraw
  have e2 : Conv.floatToFloat .f32 x .f64 = (match Ieee.single.read x with
    | .nan _ _ => do pure (.float .f64 (← choose (.nanConv .f64 x)))
    | .infinity s => pure (.float .f64 (Ieee.double.write (.infinity s)))
    | .number s m e =>
      if (Ieee.double.read (Ieee.double.write (.number s m e))).isInfinity then do pure (.float .f64 (← choose (.floatToFloat x)))
      else pure (.float .f64 (Ieee.double.write (.number s m e))) : Sem Value) := rfl
  rw [e2]
  cases hr : Ieee.single.read x with
  | number s m i => simp [World.drewN_zero, Datum.isNaN, hfin s m i hr]
  | infinity s => simp [World.drewN_zero, Datum.isNaN]
  | nan s t => simp [World.drew_is_drewN, Question.forced, Datum.isNaN]
end Go.Proofs.YtgdillnpehmcbaaGreatDoor.W.Nu
/- Contracts of the small functions beneath package soft and its reference: doubles by their patterns, and back. -/
namespace Go.Proofs.YtgdillnpehmcbaaGreatDoor.W.Nu
open Go.ChangeShapes Go.WideShapes Go.RowKit

theorem ret_bool {a b : Bool} (h : a = b) : Ending.returned (.bool a) = .returned (.bool b) := by rw [h]
theorem ret_int {k : IntKind} {a b : Int} (h : a = b) : Ending.returned (.int k a) = .returned (.int k b) := by rw [h]
theorem ret_float {k : FloatKind} {a b : Nat} (h : a = b) : Ending.returned (.float k a) = .returned (.float k b) := by rw [h]
theorem ret_ii {k l : IntKind} {a a' b b' : Int} (h : a = a') (g : b = b') : Ending.returned (.tuple #[.int k a, .int l b]) = .returned (.tuple #[.int k a', .int l b']) := by rw [h, g]
theorem hid {p : Prop} (h : p) : Hid p := h

theorem run_frombits64 (n : Int) (w : World) : (callFunc 184 #[.int .u64 n]).run Tryz.prog w = .ok (.value (.float .f64 n.toNat)) w := by
  rw [run_callFunc_extern Tryz.func184 (e := Extern.MathFloatBits.float64frombits) (by kernel_rfl) (by kernel_rfl) (by kernel_rfl) (by kernel_rfl)]
  rfl
theorem run_bits64 (x : Nat) (w : World) : (callFunc 186 #[.float .f64 x]).run Tryz.prog w = .ok (.value (.int .u64 (x : Nat))) w := by
  rw [run_callFunc_extern Tryz.func186 (e := Extern.MathFloatBits.float64bits) (by kernel_rfl) (by kernel_rfl) (by kernel_rfl) (by kernel_rfl)]
  rfl
theorem run_archFloor (x : Nat) (w : World) : (callFunc 252 #[.float .f64 x]).run Tryz.prog w = .ok (.value (.float .f64 (flres Tryz.prog x w))) (w.drewN (fldraw x)) := by
  rw [run_callFunc_extern Tryz.func252 (e := Extern.MathFloor.toIntegral "math.archFloor" .down) (by kernel_rfl) (by kernel_rfl) (by kernel_rfl) (by kernel_rfl), run_floor]
  rfl

set_option maxHeartbeats 400000 in
theorem double_c (n : Int) (w : World) :
    Calls Tryz.prog 134 #[.int .u64 n] w fun e w' => e = .returned (.float .f64 n.toNat) ∧ w' = w := by
  have hx := run_frombits64 n
  go_enter Tryz.func134, Tryz.ntmps134
  go_wp2
  go_ret
  exact ⟨rfl, rfl⟩
set_option maxHeartbeats 400000 in
theorem isNaN_f (x : Nat) (w : World) :
    Calls Tryz.prog 185 #[.float .f64 x] w fun e w' => e = .returned (.bool (nanB (x : Nat))) ∧ w' = w := by
  go_enter Tryz.func185, Tryz.ntmps185
  go_wp2
  go_ret
  exact ⟨ret_bool (isNaN_eq x), rfl⟩
set_option maxHeartbeats 400000 in
theorem pattern_c (x : Nat) (w : World) :
    Calls Tryz.prog 135 #[.float .f64 x] w fun e w' => e = .returned (.int .u64 (fltW (x : Nat))) ∧ w' = w := by
  have hx := run_bits64 x
  cases hn : nanB (x : Nat) with
  | true =>
    go_enter Tryz.func135, Tryz.ntmps135
    go_wp2_with (go_at_call 185; refine (isNaN_f _ _).mono ?_; rintro e w' ⟨rfl, rfl⟩)
    go_ret
    exact ⟨ret_int (by simp [fltW, hn]), rfl⟩
  | false =>
    go_enter Tryz.func135, Tryz.ntmps135
    go_wp2_with (go_at_call 185; refine (isNaN_f _ _).mono ?_; rintro e w' ⟨rfl, rfl⟩)
    go_ret
    exact ⟨ret_int (by simp [fltW, hn]), rfl⟩
set_option maxHeartbeats 400000 in
theorem floor_c (x : Nat) (w : World) :
    Calls Tryz.prog 203 #[.float .f64 x] w fun e w' => e = .returned (.float .f64 (flres Tryz.prog x w)) ∧ w' = w.drewN (fldraw x) := by
  have hx := run_archFloor x
  go_enter Tryz.func203, Tryz.ntmps203
  go_wp2
  go_ret
  exact ⟨rfl, rfl⟩
theorem nan_ref1 (n : Int) (h : n / 4503599627370496 % 2048 = 2047) : (n % 4503599627370496 != 0) = nanB n := by
  unfold nanB
  rw [Bool.eq_iff_iff]
  simp only [bne_iff_ne, ne_eq, decide_eq_true_eq]
  omega
theorem nan_ref2 (n : Int) (h : ¬ n / 4503599627370496 % 2048 = 2047) : false = nanB n := by
  unfold nanB
  rw [Bool.eq_iff_iff]
  simp only [Bool.false_eq_true, decide_eq_true_eq, false_iff]
  omega
set_option maxHeartbeats 400000 in
theorem refNaN_c (n : Int) (h0 : 0 ≤ n) (h1 : n < 18446744073709551616) (w : World) :
    Calls Tryz.prog 16 #[.int .u64 n] w fun e w' => e = .returned (.bool (nanB n)) ∧ w' = w := by
  go_enter Tryz.func16, Tryz.ntmps16
  go_wp2
  all_goals go_ret
  · exact ⟨ret_bool (nan_ref1 n (by assumption)), rfl⟩
  · exact ⟨ret_bool (nan_ref2 n (by assumption)), rfl⟩
end Go.Proofs.YtgdillnpehmcbaaGreatDoor.W.Nu
/- Contracts of package soft and of its reference: sums, differences, products, quotients, signs, floors, orders; one plain function says what both answer. -/
namespace Go.Proofs.YtgdillnpehmcbaaGreatDoor.W.Nu
open Go.ChangeShapes Go.WideShapes Go.RowKit

theorem xor_sign (a : Int) (h0 : 0 ≤ a) (h1 : a < 18446744073709551616) : bits .xor .u64 a 9223372036854775808 = if a < 9223372036854775808 then a + 9223372036854775808 else a - 9223372036854775808 := by
  rw [u64_xor a 9223372036854775808 h0 h1 (by decide) (by decide)]
  have key : ∀ x : Nat, x < 2 ^ 63 → x ^^^ 2 ^ 63 = 2 ^ 63 + x := by
    intro x hx
    rw [← nat_join 63 (2 ^ 63) x (by decide) hx]
    apply Nat.eq_of_testBit_eq
    intro i
    rw [Nat.testBit_xor, Nat.testBit_or, Nat.testBit_two_pow]
    by_cases h : 63 = i
    · subst h; rw [Nat.testBit_lt_two_pow hx]; simp
    · simp [h]
  have e : (9223372036854775808 : Int).toNat = 2 ^ 63 := by decide
  rw [e]
  by_cases h : a < 9223372036854775808
  · rw [if_pos h, key _ (by omega)]; omega
  · rw [if_neg h]
    have e2 : a.toNat = (a - 9223372036854775808).toNat ^^^ 2 ^ 63 := by rw [key _ (by omega)]; omega
    rw [e2, Nat.xor_assoc, Nat.xor_self, Nat.xor_zero]
    omega

/-- what Neg answers -/
def negI (a : Int) : Int := if nanB a = true then 9221120237041090560 else if a < 9223372036854775808 then a + 9223372036854775808 else a - 9223372036854775808
theorem nan_turn (a : Int) : nanB (if a < 9223372036854775808 then a + 9223372036854775808 else a - 9223372036854775808) = nanB a := by
  unfold nanB
  split <;> congr 1 <;> (apply propext) <;> constructor <;> intro h <;> omega
theorem negI_range (a : Int) (h0 : 0 ≤ a) (h1 : a < 18446744073709551616) : 0 ≤ negI a ∧ negI a < 18446744073709551616 := by
  unfold negI; split <;> (try split) <;> omega
/-- what FromInt answers -/
def fromI (i : Int) : Int := (floatOfInt .f64 i : Nat)
theorem fromI_range (i : Int) : 0 ≤ fromI i ∧ fromI i < 18446744073709551616 := by
  have : floatOfInt .f64 i < 18446744073709551616 := write_lt (.number (i < 0) i.natAbs 0)
  unfold fromI; omega
theorem fromI_plain (i : Int) : fltW (floatOfInt .f64 i : Nat) = fromI i := by
  have : nanB (floatOfInt .f64 i : Nat) = false := nearest_plain _ _ _
  simp [fltW, this, fromI]
def lessI (a b : Int) : Bool := Ieee.double.order a.toNat b.toNat == some .lt
def equalI (a b : Int) : Bool := Ieee.double.order a.toNat b.toNat == some .eq
def lessEqI (a b : Int) : Bool := Ieee.double.order a.toNat b.toNat == some .lt || Ieee.double.order a.toNat b.toNat == some .eq

theorem run_same (src dst : TypeId) (x : Nat) (hs : (Tryz.prog.underlying src).isSome = true) (hd : Tryz.prog.underlying dst = some (.float .f64)) (w : World) :
    (convert src dst (.float .f64 x)).run Tryz.prog w = .ok (.float .f64 x) w := run_convert_float_float w src dst .f64 .f64 x x hs hd (by simp [floatToFloatBits])
set_option maxHeartbeats 800000 in
theorem softAdd_c (a b : Int) (w : World) :
    Calls Tryz.prog 154 #[.int .u64 a, .int .u64 b] w fun e w' => e = .returned (.int .u64 (opI .add a b)) ∧ ∃ m, w' = w.drewN m := by
  have hop := run_fop Tryz.prog .add (Or.inl rfl) 155 a.toNat b.toNat
  have hcv := fun x w => run_same 155 155 x (by rw [Tryz.underlying155]; rfl) Tryz.underlying155 w
  go_enter Tryz.func154, Tryz.ntmps154
  go_wp2_with (first | (go_at_call 134; refine (double_c _ _).mono ?_; rintro e w' ⟨rfl, rfl⟩) | (go_at_call 135; refine (pattern_c _ _).mono ?_; rintro e w' ⟨rfl, rfl⟩))
  go_ret
  exact ⟨ret_int (fltW_fres ..), _, rfl⟩
set_option maxHeartbeats 800000 in
theorem softSub_c (a b : Int) (w : World) :
    Calls Tryz.prog 101 #[.int .u64 a, .int .u64 b] w fun e w' => e = .returned (.int .u64 (opI .sub a b)) ∧ ∃ m, w' = w.drewN m := by
  have hop := run_fop Tryz.prog .sub (Or.inr (Or.inl rfl)) 155 a.toNat b.toNat
  have hcv := fun x w => run_same 155 155 x (by rw [Tryz.underlying155]; rfl) Tryz.underlying155 w
  go_enter Tryz.func101, Tryz.ntmps101
  go_wp2_with (first | (go_at_call 134; refine (double_c _ _).mono ?_; rintro e w' ⟨rfl, rfl⟩) | (go_at_call 135; refine (pattern_c _ _).mono ?_; rintro e w' ⟨rfl, rfl⟩))
  go_ret
  exact ⟨ret_int (fltW_fres ..), _, rfl⟩
set_option maxHeartbeats 800000 in
theorem softMul_c (a b : Int) (w : World) :
    Calls Tryz.prog 104 #[.int .u64 a, .int .u64 b] w fun e w' => e = .returned (.int .u64 (opI .mul a b)) ∧ ∃ m, w' = w.drewN m := by
  have hop := run_fop Tryz.prog .mul (Or.inr (Or.inr (Or.inl rfl))) 155 a.toNat b.toNat
  have hcv := fun x w => run_same 155 155 x (by rw [Tryz.underlying155]; rfl) Tryz.underlying155 w
  go_enter Tryz.func104, Tryz.ntmps104
  go_wp2_with (first | (go_at_call 134; refine (double_c _ _).mono ?_; rintro e w' ⟨rfl, rfl⟩) | (go_at_call 135; refine (pattern_c _ _).mono ?_; rintro e w' ⟨rfl, rfl⟩))
  go_ret
  exact ⟨ret_int (fltW_fres ..), _, rfl⟩
set_option maxHeartbeats 800000 in
theorem softDiv_c (a b : Int) (w : World) :
    Calls Tryz.prog 105 #[.int .u64 a, .int .u64 b] w fun e w' => e = .returned (.int .u64 (opI .quo a b)) ∧ ∃ m, w' = w.drewN m := by
  have hop := run_fop Tryz.prog .quo (Or.inr (Or.inr (Or.inr rfl))) 155 a.toNat b.toNat
  have hcv := fun x w => run_same 155 155 x (by rw [Tryz.underlying155]; rfl) Tryz.underlying155 w
  go_enter Tryz.func105, Tryz.ntmps105
  go_wp2_with (first | (go_at_call 134; refine (double_c _ _).mono ?_; rintro e w' ⟨rfl, rfl⟩) | (go_at_call 135; refine (pattern_c _ _).mono ?_; rintro e w' ⟨rfl, rfl⟩))
  go_ret
  exact ⟨ret_int (fltW_fres ..), _, rfl⟩
set_option maxHeartbeats 800000 in
theorem softFloor_c (a : Int) (h0 : 0 ≤ a) (w : World) :
    Calls Tryz.prog 157 #[.int .u64 a] w fun e w' => e = .returned (.int .u64 (floorI a)) ∧ ∃ m, w' = w.drewN m := by
  go_enter Tryz.func157, Tryz.ntmps157
  go_wp2_with (first | (go_at_call 134; refine (double_c _ _).mono ?_; rintro e w' ⟨rfl, rfl⟩) | (go_at_call 203; refine (floor_c _ _).mono ?_; rintro e w' ⟨rfl, rfl⟩) | (go_at_call 135; refine (pattern_c _ _).mono ?_; rintro e w' ⟨rfl, rfl⟩))
  go_ret
  exact ⟨ret_int (fltW_flres _ a h0 _), _, rfl⟩
set_option maxHeartbeats 800000 in
theorem softFromInt_c (i : Int) (w : World) :
    Calls Tryz.prog 69 #[.int .i64 i] w fun e w' => e = .returned (.int .u64 (fromI i)) ∧ w' = w := by
  go_enter Tryz.func69, Tryz.ntmps69
  go_wp2_with (go_at_call 135; refine (pattern_c _ _).mono ?_; rintro e w' ⟨rfl, rfl⟩)
  go_ret
  exact ⟨ret_int (fromI_plain i), rfl⟩
set_option maxHeartbeats 800000 in
theorem softLess_c (a b : Int) (w : World) :
    Calls Tryz.prog 257 #[.int .u64 a, .int .u64 b] w fun e w' => e = .returned (.bool (lessI a b)) ∧ w' = w := by
  go_enter Tryz.func257, Tryz.ntmps257
  go_wp2_with (go_at_call 134; refine (double_c _ _).mono ?_; rintro e w' ⟨rfl, rfl⟩)
  go_ret
  exact ⟨rfl, rfl⟩
set_option maxHeartbeats 800000 in
theorem softEqual_c (a b : Int) (w : World) :
    Calls Tryz.prog 258 #[.int .u64 a, .int .u64 b] w fun e w' => e = .returned (.bool (equalI a b)) ∧ w' = w := by
  go_enter Tryz.func258, Tryz.ntmps258
  go_wp2_with (go_at_call 134; refine (double_c _ _).mono ?_; rintro e w' ⟨rfl, rfl⟩)
  go_ret
  exact ⟨rfl, rfl⟩
/-- does a double's whole part fit into 64 bits? -/
def fitsB (a : Int) : Bool := (Ieee.double.order a.toNat 14114281232179134464 == some .gt || Ieee.double.order a.toNat 14114281232179134464 == some .eq) && Ieee.double.order a.toNat 4890909195324358656 == some .lt
set_option maxHeartbeats 800000 in
theorem softTrunc_in (a v : Int) (hv : floatToIntVal .f64 a.toNat .i64 = some v) (hf : fitsB a = true) (w : World) :
    Calls Tryz.prog 67 #[.int .u64 a] w fun e w' => e = .returned (.tuple #[.int .i64 v, .int .i64 0]) ∧ w' = w := by
  have hc : ∀ w, (convert 155 2 (.float .f64 a.toNat)).run Tryz.prog w = .ok (.int .i64 v) w := fun w => run_convert_float_int w 155 2 .f64 .i64 a.toNat v (by rw [Tryz.underlying155]; rfl) Tryz.underlying2 hv
  unfold fitsB at hf
  rw [Bool.and_eq_true, Bool.or_eq_true] at hf
  obtain ⟨h1, h2⟩ := hf
  have h2' : FloatKind.f64.format.order a.toNat 4890909195324358656 = some .lt := eq_of_beq h2
  rcases h1 with h1 | h1
  · have h1' : FloatKind.f64.format.order a.toNat 14114281232179134464 = some .gt := eq_of_beq h1
    clear h1 h2
    go_enter Tryz.func67, Tryz.ntmps67
    go_wp2_with (go_at_call 134; refine (double_c _ _).mono ?_; rintro e w' ⟨rfl, rfl⟩)
    go_ret2
    exact ⟨rfl, rfl⟩
  · have h1' : FloatKind.f64.format.order a.toNat 14114281232179134464 = some .eq := eq_of_beq h1
    clear h1 h2
    go_enter Tryz.func67, Tryz.ntmps67
    go_wp2_with (go_at_call 134; refine (double_c _ _).mono ?_; rintro e w' ⟨rfl, rfl⟩)
    go_ret2
    exact ⟨rfl, rfl⟩
set_option maxHeartbeats 800000 in
theorem softTrunc_out (a : Int) (hf : fitsB a = false) (w : World) :
    Calls Tryz.prog 67 #[.int .u64 a] w fun e w' => e = .returned (.tuple #[.int .i64 0, .int .i64 13]) ∧ w' = w := by
  have hf' : ((FloatKind.f64.format.order a.toNat 14114281232179134464 == some .gt || FloatKind.f64.format.order a.toNat 14114281232179134464 == some .eq) && FloatKind.f64.format.order a.toNat 4890909195324358656 == some .lt) = false := hf
  cases h1 : (FloatKind.f64.format.order a.toNat 14114281232179134464 == some .gt || FloatKind.f64.format.order a.toNat 14114281232179134464 == some .eq) with
  | false =>
    have h1a : (FloatKind.f64.format.order a.toNat 14114281232179134464 == some .gt) = false := by revert h1; cases (FloatKind.f64.format.order a.toNat 14114281232179134464 == some .gt) <;> simp
    have h1b : (FloatKind.f64.format.order a.toNat 14114281232179134464 == some .eq) = false := by revert h1; cases (FloatKind.f64.format.order a.toNat 14114281232179134464 == some .eq) <;> simp
    go_enter Tryz.func67, Tryz.ntmps67
    go_wp2_with (go_at_call 134; refine (double_c _ _).mono ?_; rintro e w' ⟨rfl, rfl⟩)
    go_ret2
    exact ⟨rfl, rfl⟩
  | true =>
    have h2 : (FloatKind.f64.format.order a.toNat 4890909195324358656 == some .lt) = false := by rw [h1] at hf'; simpa using hf'
    rw [Bool.or_eq_true] at h1
    rcases h1 with h1 | h1
    · have h1' : FloatKind.f64.format.order a.toNat 14114281232179134464 = some .gt := eq_of_beq h1
      clear h1 hf hf'
      go_enter Tryz.func67, Tryz.ntmps67
      go_wp2_with (go_at_call 134; refine (double_c _ _).mono ?_; rintro e w' ⟨rfl, rfl⟩)
      go_ret2
      exact ⟨rfl, rfl⟩
    · have h1' : FloatKind.f64.format.order a.toNat 14114281232179134464 = some .eq := eq_of_beq h1
      clear h1 hf hf'
      go_enter Tryz.func67, Tryz.ntmps67
      go_wp2_with (go_at_call 134; refine (double_c _ _).mono ?_; rintro e w' ⟨rfl, rfl⟩)
      go_ret2
      exact ⟨rfl, rfl⟩
end Go.Proofs.YtgdillnpehmcbaaGreatDoor.W.Nu
/- Worlds that have only grown: so many draws further, with new blocks behind the old ones. -/
namespace Go.Proofs.YtgdillnpehmcbaaGreatDoor.W.Nu
open Go.ChangeShapes Go.WideShapes Go.RowKit

/-- w' is w, some draws further, with new blocks behind the old ones -/
def Gr (w w' : World) : Prop := ∃ q os, w' = Sort.grow (w.drewN q) os
theorem Gr.refl (w : World) : Gr w w := ⟨0, #[], by rw [Sort.grow_empty, World.drewN_zero]⟩
theorem Gr.of_eq {a b : World} (h : a = b) : Gr a b := h ▸ Gr.refl a
theorem Gr.trans {a b c : World} (h : Gr a b) (k : Gr b c) : Gr a c := by
  obtain ⟨q, os, rfl⟩ := h
  obtain ⟨q', os', rfl⟩ := k
  refine ⟨q + q', os ++ os', ?_⟩
  show Sort.grow (Sort.grow ((a.drewN q).drewN q') os) os' = _
  rw [Sort.grow_grow, World.drewN_drewN]
theorem Gr.alloc {a b : World} (h : Gr a b) (o : Obj) : Gr a (b.alloc o) := h.trans ⟨0, #[o], by rw [Sort.alloc_eq_grow, World.drewN_zero]⟩
theorem Gr.draw {a b : World} (h : Gr a b) (n : Nat) : Gr a (b.drewN n) := h.trans ⟨n, #[], by rw [Sort.grow_empty]⟩
theorem Gr.drew {a b : World} (h : Gr a b) : Gr a b.drew := h.draw 1
theorem Gr.of_same {a b : World} (m : Nat) (h : b = a.drewN m) : Gr a b := ⟨m, #[], by rw [h, Sort.grow_empty]⟩
theorem Gr.store {a b : World} (h : Gr a b) {p : Addr} (hp : a.heap.size ≤ p.block) (v : Value) : Gr a (b.setCell p v) := by
  obtain ⟨q, os, rfl⟩ := h
  have e := fun f => Sort.modify_append_right a.heap os p.block f (by exact hp)
  exact ⟨q, _, by unfold World.setCell Sort.grow; exact congrArg (fun h => ({ a.drewN q with heap := h } : World)) (e _)⟩
theorem Gr.size {a b : World} (h : Gr a b) : a.heap.size ≤ b.heap.size := by
  obtain ⟨q, os, rfl⟩ := h
  rw [Sort.size_grow]
  exact Nat.le_add_right _ _
theorem Gr.old {a b : World} (h : Gr a b) {k : Nat} (hk : k < a.heap.size) : b.heap[k]? = a.heap[k]? := by
  obtain ⟨q, os, rfl⟩ := h
  exact Sort.heap_grow_old _ _ (by exact hk)
theorem Gr.below {a b : World} (h : Gr a b) : Below a.heap.size a b := by
  refine ⟨?_, ?_, ?_, h.size, fun k hk => h.old hk⟩ <;> (obtain ⟨q, os, rfl⟩ := h; rfl)
theorem Gr.frozen {a b : World} (h : Gr a b) {n i : Nat} (hn : n < a.heap.size) : b.frozen? ⟨n, i, none⟩ = a.frozen? ⟨n, i, none⟩ := by
  simp only [World.frozen?, h.old hn]
theorem cell_lt {w : World} {n i : Nat} {v : Value} (h : w.cell? ⟨n, i, none⟩ = some v) : n < w.heap.size := by
  false_or_by_contra
  rename_i g
  have e : w.heap[n]? = none := Array.getElem?_eq_none (by omega)
  simp [World.cell?, e] at h
theorem Gr.cells {a b : World} (h : Gr a b) {n : Nat} {c : Array Value} (f : ∀ i, a.cell? ⟨n, i, none⟩ = c[i]?) (hc : 0 < c.size) : ∀ i, b.cell? ⟨n, i, none⟩ = c[i]? := by
  have hn : n < a.heap.size := cell_lt (i := 0) (v := c[0]) (by rw [f 0]; simp [hc])
  intro i
  rw [← f i]
  exact World.cell?_of_block (w := a) (h.old hn)
theorem cells_lt {w : World} {n : Nat} {c : Array Value} (f : ∀ i, w.cell? ⟨n, i, none⟩ = c[i]?) (hc : 0 < c.size) : n < w.heap.size := cell_lt (i := 0) (v := c[0]) (by rw [f 0]; simp [hc])
theorem Gr.of_alloc {a b : World} {o : Obj} (h : Gr (a.alloc o) b) : Gr a b := ((Gr.refl a).alloc o).trans h
theorem Gr.of_drew {a b : World} (h : Gr a.drew b) : Gr a b := (Gr.refl a).drew.trans h
theorem Gr.new {a b : World} {c : Array Value} {t : TypeId} (h : Gr (a.alloc (.cells c t)) b) (hc : 0 < c.size) : ∀ i, b.cell? ⟨a.heap.size, i, none⟩ = c[i]? :=
  h.cells (fun i => World.cell?_alloc_at c t _ i rfl) hc
theorem Gr.thaw {a b : World} (h : Gr a b) {n : Nat} {c : Array Value} (f : ∀ i, a.cell? ⟨n, i, none⟩ = c[i]?) (hc : 0 < c.size) (z : ∀ i, a.frozen? ⟨n, i, none⟩ = false) : ∀ i, b.frozen? ⟨n, i, none⟩ = false := by
  have hn : n < a.heap.size := cell_lt (i := 0) (v := c[0]) (by rw [f 0]; simp [hc])
  intro i
  rw [h.frozen hn]
  exact z i
theorem cells_alloc {w : World} {n : Nat} {c : Array Value} (o : Obj) (f : ∀ i, w.cell? ⟨n, i, none⟩ = c[i]?) (hc : 0 < c.size) : ∀ i, (w.alloc o).cell? ⟨n, i, none⟩ = c[i]? := ((Gr.refl w).alloc o).cells f hc
theorem size_alloc (w : World) (o : Obj) : (w.alloc o).heap.size = w.heap.size + 1 := by rw [Sort.alloc_eq_grow, Sort.size_grow]; rfl
theorem frozen_new (w : World) (c : Array Value) (t : TypeId) (n i : Nat) (hn : n = w.heap.size) : (w.alloc (.cells c t)).frozen? ⟨n, i, none⟩ = false := by
  rw [frozen?_alloc_cells, World.frozen?]
  have : w.heap[n]? = none := Array.getElem?_eq_none (by omega)
  rw [this]
/-- a new block -/
theorem Gr.one {w w' : World} {A : Array Value} {s : TypeId} (h : Gr (w.alloc (.cells A s)) w') (hA : 0 < A.size) :
    (∀ i, w'.cell? ⟨w.heap.size, i, none⟩ = A[i]?) ∧ (∀ i, w'.frozen? ⟨w.heap.size, i, none⟩ = false) ∧ Gr w w' :=
  ⟨h.new hA, h.thaw (fun i => World.cell?_alloc_at A s _ i rfl) hA (fun i => frozen_new w A s _ i rfl), h.of_alloc⟩
/-- two new blocks -/
theorem Gr.two {w w' : World} {A B : Array Value} {s t : TypeId} (h : Gr ((w.alloc (.cells A s)).alloc (.cells B t)) w') (hA : 0 < A.size) (hB : 0 < B.size) :
    (∀ i, w'.cell? ⟨w.heap.size, i, none⟩ = A[i]?) ∧ (∀ i, w'.cell? ⟨w.heap.size + 1, i, none⟩ = B[i]?) ∧ Gr w w' := by
  refine ⟨h.cells (cells_alloc _ (fun i => World.cell?_alloc_at A s _ i rfl) hA) hA, ?_, h.of_alloc.of_alloc⟩
  have e := h.new hB
  rwa [size_alloc] at e
/-- two new blocks, the second one to be written -/
theorem Gr.pair {w w' : World} {A R : Array Value} {s r : TypeId} (h : Gr ((w.alloc (.cells A s)).alloc (.cells R r)) w') (hA : 0 < A.size) (hR : 0 < R.size) :
    (∀ i, w'.cell? ⟨w.heap.size, i, none⟩ = A[i]?) ∧ (∀ i, w'.cell? ⟨w.heap.size + 1, i, none⟩ = R[i]?) ∧ (∀ i, w'.frozen? ⟨w.heap.size + 1, i, none⟩ = false) ∧ Gr w w' := by
  obtain ⟨f1, f2, f3⟩ := h.two hA hR
  refine ⟨f1, f2, h.thaw (fun i => World.cell?_alloc_at R r (w.heap.size + 1) i (by rw [size_alloc])) hR (fun i => frozen_new _ R r _ i (by rw [size_alloc])), f3⟩
/-- three new blocks -/
theorem Gr.three {w w' : World} {A B R : Array Value} {s t r : TypeId} (h : Gr (((w.alloc (.cells A s)).alloc (.cells B t)).alloc (.cells R r)) w') (hA : 0 < A.size) (hB : 0 < B.size) (hR : 0 < R.size) :
    (∀ i, w'.cell? ⟨w.heap.size, i, none⟩ = A[i]?) ∧ (∀ i, w'.cell? ⟨w.heap.size + 1, i, none⟩ = B[i]?) ∧ (∀ i, w'.cell? ⟨w.heap.size + 1 + 1, i, none⟩ = R[i]?) ∧ (∀ i, w'.frozen? ⟨w.heap.size + 1 + 1, i, none⟩ = false) ∧ Gr w w' := by
  obtain ⟨f1, f2, f3⟩ := h.of_alloc.two hA hB
  have e := h.new hR
  have z : ∀ i, (((w.alloc (.cells A s)).alloc (.cells B t)).alloc (.cells R r)).frozen? ⟨w.heap.size + 1 + 1, i, none⟩ = false := by
    intro i
    rw [frozen?_alloc_cells, World.frozen?]
    have : ((w.alloc (.cells A s)).alloc (.cells B t)).heap[w.heap.size + 1 + 1]? = none := Array.getElem?_eq_none (by rw [size_alloc, size_alloc]; omega)
    rw [this]
  have c := fun i => World.cell?_alloc_at (w := (w.alloc (.cells A s)).alloc (.cells B t)) R r (w.heap.size + 1 + 1) i (by rw [size_alloc, size_alloc])
  rw [size_alloc, size_alloc] at e
  exact ⟨f1, f2, e, h.thaw c hR z, f3⟩
end Go.Proofs.YtgdillnpehmcbaaGreatDoor.W.Nu
/- Contracts of package num's and its reference's small functions: what they hand back, and that memory has only grown. -/
namespace Go.Proofs.YtgdillnpehmcbaaGreatDoor.W.Nu
open Go.ChangeShapes Go.WideShapes Go.RowKit

/-- a number as a double's pattern -/
def bitsI (a : Bool) (i u : Int) : Int := if a = true then fromI i else u
set_option maxHeartbeats 400000 in
theorem numWhole_c (i : Int) (w : World) :
    Calls Tryz.prog 156 #[.int .i64 i] w fun e w' => e = .returned (.agg #[.bool true, .int .i64 i, .int .u64 0]) ∧ Gr w w' := by
  go_enter Tryz.func156, Tryz.ntmps156
  go_wp2
  exact bodyPost_ret (v := .agg #[.bool true, .int .i64 i, .int .u64 0]) (by simp [results, Tryz.results156, go_sem]) rfl ⟨rfl, (Gr.refl _).alloc _⟩
set_option maxHeartbeats 400000 in
theorem numDouble_c (u : Int) (w : World) :
    Calls Tryz.prog 100 #[.int .u64 u] w fun e w' => e = .returned (.agg #[.bool false, .int .i64 0, .int .u64 u]) ∧ Gr w w' := by
  go_enter Tryz.func100, Tryz.ntmps100
  go_wp2
  exact bodyPost_ret (v := .agg #[.bool false, .int .i64 0, .int .u64 u]) (by simp [results, Tryz.results100, go_sem]) rfl ⟨rfl, (Gr.refl _).alloc _⟩
set_option maxHeartbeats 400000 in
theorem refused_c (n : Int) (w : World) :
    Calls Tryz.prog 155 #[.int .i64 n] w fun e w' => e = .returned (.tuple #[.agg #[.bool false, .int .i64 0, .int .u64 0], .int .i64 n]) ∧ Gr w w' := by
  go_enter Tryz.func155, Tryz.ntmps155
  go_wp2
  exact bodyPost_ret (v := .tuple #[.agg #[.bool false, .int .i64 0, .int .u64 0], .int .i64 n]) (by simp [results, Tryz.results155, go_sem]) rfl ⟨rfl, (Gr.refl _).alloc _⟩
theorem fltW_fromI (i : Int) : fltW (fromI i) = fromI i := by
  have h : nanB (fromI i) = false := nearest_plain _ _ _
  simp [fltW, h]
/-- the kinds of two operands -/
def kindI (a b : Bool) : Int := if a = true then (if b = true then 0 else 1) else if b = true then 2 else 3
set_option maxHeartbeats 400000 in
theorem kinds_c (a b : Bool) (i u j v : Int) (w : World) :
    Calls Tryz.prog 98 #[.agg #[.bool a, .int .i64 i, .int .u64 u], .agg #[.bool b, .int .i64 j, .int .u64 v]] w fun e w' => e = .returned (.int .i64 (kindI a b)) ∧ Gr w w' := by
  cases a <;> cases b
  all_goals
    go_enter Tryz.func98, Tryz.ntmps98
    go_wp2
    go_ret
    exact ⟨rfl, ((Gr.refl _).alloc _).alloc _⟩
set_option maxHeartbeats 400000 in
theorem bitsOf_c (a : Bool) (i u : Int) (w : World) :
    Calls Tryz.prog 102 #[.agg #[.bool a, .int .i64 i, .int .u64 u]] w fun e w' => e = .returned (.int .u64 (bitsI a i u)) ∧ Gr w w' := by
  cases a
  all_goals
    go_enter Tryz.func102, Tryz.ntmps102
    go_wp2_with (go_at_call 69; refine (softFromInt_c _ _).mono ?_; rintro e w' ⟨rfl, rfl⟩)
    go_ret
    exact ⟨rfl, (Gr.refl _).alloc _⟩
end Go.Proofs.YtgdillnpehmcbaaGreatDoor.W.Nu
/- Plain facts on whole numbers of 64 bits: what fits, wrapped sums and products, quotients rounded down. No Go in sight but a result's parts. -/
namespace Go.Proofs.YtgdillnpehmcbaaGreatDoor.W.Nu

/-- a result's parts: is it whole, the whole number, the pattern, the error -/
structure Res where
  w : Bool
  i : Int
  u : Int
  e : Int
def okW (n : Int) : Res := ⟨true, n, 0, 0⟩
def okD (u : Int) : Res := ⟨false, 0, u, 0⟩
def bad (e : Int) : Res := ⟨false, 0, 0, e⟩
/-- a whole number that fits, or the error -/
def fitR (n : Int) : Res := if -9223372036854775808 ≤ n ∧ n < 9223372036854775808 then okW n else bad 10
theorem fitR_in {n : Int} (h : -9223372036854775808 ≤ n ∧ n < 9223372036854775808) : fitR n = okW n := if_pos h
theorem fitR_out {n : Int} (h : ¬ (-9223372036854775808 ≤ n ∧ n < 9223372036854775808)) : fitR n = bad 10 := if_neg h

/-- the greatest whole number that is not above the quotient -/
def flI (a b : Int) : Int := if 0 < b then a / b else (-a) / (-b)
/-- what it leaves -/
def mdI (a b : Int) : Int := a - b * flI a b
theorem flI_spec (a b : Int) (hb : b ≠ 0) : (0 < b → b * flI a b ≤ a ∧ a < b * flI a b + b) ∧ (b < 0 → a ≤ b * flI a b ∧ b * flI a b + b < a) := by
  unfold flI
  constructor
  · intro h
    rw [if_pos h]
    have h1 := Int.mul_ediv_add_emod a b
    have h2 := Int.emod_nonneg a hb
    have h3 := Int.emod_lt_of_pos a h
    omega
  · intro h
    rw [if_neg (by omega)]
    have h1 := Int.mul_ediv_add_emod (-a) (-b)
    have h2 := Int.emod_nonneg (-a) (b := -b) (by omega)
    have h3 := Int.emod_lt_of_pos (-a) (b := -b) (by omega)
    rw [Int.neg_mul] at h1
    omega
theorem mul_gap {b x y : Int} (hb : 0 < b) (h : b * x < b * y + b) : x ≤ y := by
  have : b * x < b * (y + 1) := by rw [Int.mul_add]; omega
  have := Int.lt_of_mul_lt_mul_left this (by omega)
  omega
theorem flI_unique (a b q : Int) (hb : b ≠ 0) (h1 : 0 < b → b * q ≤ a ∧ a < b * q + b) (h2 : b < 0 → a ≤ b * q ∧ b * q + b < a) : q = flI a b := by
  obtain ⟨s1, s2⟩ := flI_spec a b hb
  by_cases h : 0 < b
  · have := h1 h
    have := s1 h
    have g1 := mul_gap h (x := q) (y := flI a b) (by omega)
    have g2 := mul_gap h (x := flI a b) (y := q) (by omega)
    omega
  · have hn : b < 0 := by omega
    have := h2 hn
    have := s2 hn
    have g1 := mul_gap (b := -b) (by omega) (x := q) (y := flI a b) (by rw [Int.neg_mul, Int.neg_mul]; omega)
    have g2 := mul_gap (b := -b) (by omega) (x := flI a b) (y := q) (by rw [Int.neg_mul, Int.neg_mul]; omega)
    omega
theorem mdI_spec (a b : Int) (hb : b ≠ 0) : (0 < b → 0 ≤ mdI a b ∧ mdI a b < b) ∧ (b < 0 → b < mdI a b ∧ mdI a b ≤ 0) := by
  obtain ⟨s1, s2⟩ := flI_spec a b hb
  unfold mdI
  constructor
  · intro h; have := s1 h; omega
  · intro h; have := s2 h; omega
/-- Go's quotient and rest -/
theorem tdiv_spec (a b : Int) (hb : b ≠ 0) : b * a.tdiv b + a.tmod b = a ∧ (0 < b → -b < a.tmod b ∧ a.tmod b < b) ∧ (b < 0 → b < a.tmod b ∧ a.tmod b < -b) ∧ (0 ≤ a → 0 ≤ a.tmod b) ∧ (a ≤ 0 → a.tmod b ≤ 0) := by
  have h1 := Int.mul_tdiv_add_tmod a b
  have h2 : (a.tmod b).natAbs < b.natAbs := by rw [Int.natAbs_tmod]; exact Nat.mod_lt _ (by omega)
  refine ⟨h1, fun _ => by omega, fun _ => by omega, fun h => Int.tmod_nonneg b h, fun h => ?_⟩
  have : 0 ≤ (-a).tmod b := Int.tmod_nonneg b (by omega)
  rw [Int.neg_tmod] at this
  omega
/-- Go's quotient, mended where the signs differ and a rest is left -/
theorem fl_tdiv (a b : Int) (hb : b ≠ 0) :
    (a.tmod b ≠ 0 → ((a < 0) ↔ ¬ b < 0) → a.tdiv b - 1 = flI a b ∧ a.tmod b + b = mdI a b) ∧ ((a.tmod b = 0 ∨ ((a < 0) ↔ (b < 0))) → a.tdiv b = flI a b ∧ a.tmod b = mdI a b) := by
  obtain ⟨h1, h2, h3, h4, h5⟩ := tdiv_spec a b hb
  constructor
  · intro g1 g2
    have e : a.tdiv b - 1 = flI a b := by
      apply flI_unique a b _ hb <;> intro hs <;> rw [Int.mul_sub]
      · have := h2 hs; have := h5 (by omega); omega
      · have := h3 hs; have := h4 (by omega); omega
    refine ⟨e, ?_⟩
    unfold mdI
    rw [← e, Int.mul_sub]; omega
  · intro g
    have e : a.tdiv b = flI a b := by
      apply flI_unique a b _ hb <;> intro hs
      · have := h2 hs
        have : 0 ≤ a.tmod b := by rcases g with g | g; · omega
                                  · exact h4 (by omega)
        omega
      · have := h3 hs
        have : a.tmod b ≤ 0 := by rcases g with g | g; · omega
                                  · exact h5 (by omega)
        omega
    refine ⟨e, ?_⟩
    unfold mdI
    rw [← e]; omega

/-! ### sizes and signs -/
def sizeI (i : Int) : Int := if i < 0 then -i else i
/-- quotient and rest of the sizes, mended -/
def fq (a b : Int) : Int := if ((decide (a < 0) != decide (b < 0)) && (sizeI a % sizeI b != 0)) = true then sizeI a / sizeI b + 1 else sizeI a / sizeI b
def fr (a b : Int) : Int := if ((decide (a < 0) != decide (b < 0)) && (sizeI a % sizeI b != 0)) = true then sizeI b - sizeI a % sizeI b else sizeI a % sizeI b
theorem sizes (a b : Int) (hb : b ≠ 0) : flI a b = (if (decide (a < 0) != decide (b < 0)) = true then -(fq a b) else fq a b) ∧ mdI a b = (if b < 0 then -(fr a b) else fr a b) := by
  have hs : 0 < sizeI b := by unfold sizeI; split <;> omega
  have h1 := Int.mul_ediv_add_emod (sizeI a) (sizeI b)
  have h2 := Int.emod_nonneg (sizeI a) (b := sizeI b) (by omega)
  have h3 := Int.emod_lt_of_pos (sizeI a) hs
  have key : ∀ q r : Int, (if (decide (a < 0) != decide (b < 0)) = true then -(fq a b) else fq a b) = q → (if b < 0 then -(fr a b) else fr a b) = r → b * q + r = a → (0 < b → 0 ≤ r ∧ r < b) → (b < 0 → b < r ∧ r ≤ 0) → flI a b = (if (decide (a < 0) != decide (b < 0)) = true then -(fq a b) else fq a b) ∧ mdI a b = (if b < 0 then -(fr a b) else fr a b) := by
    intro q r e1 e2 k1 k2 k3
    have e : q = flI a b := flI_unique a b q hb (fun h => by have := k2 h; omega) (fun h => by have := k3 h; omega)
    rw [e1, e2]
    refine ⟨e.symm, ?_⟩
    unfold mdI
    rw [← e]; omega
  by_cases g1 : a < 0 <;> by_cases g2 : b < 0
  · have ea : sizeI a = -a := if_pos g1
    have eb : sizeI b = -b := if_pos g2
    rw [ea, eb] at h1 h2 h3
    refine key (-a / -b) (-(-a % -b)) (by simp [g1, g2, fq, ea, eb]) (by simp [g1, g2, fr, ea, eb]) ?_ (by omega) (by omega)
    rw [Int.neg_mul] at h1
    omega
  · have ea : sizeI a = -a := if_pos g1
    have eb : sizeI b = b := if_neg g2
    rw [ea, eb] at h1 h2 h3
    by_cases g3 : -a % b = 0
    · refine key (-(-a / b)) 0 (by simp only [g1, g2, fq, ea, eb, g3]; rfl) (by simp only [g1, g2, fr, ea, eb, g3]; rfl) ?_ (by omega) (by omega)
      rw [Int.mul_neg]; omega
    · have g3' : (-a % b != 0) = true := by simpa using g3
      refine key (-(-a / b + 1)) (b - -a % b) (by simp only [g1, g2, fq, ea, eb, g3']; rfl) (by simp only [g1, g2, fr, ea, eb, g3']; rfl) ?_ (by omega) (by omega)
      rw [Int.mul_neg, Int.mul_add]; omega
  · have ea : sizeI a = a := if_neg g1
    have eb : sizeI b = -b := if_pos g2
    rw [ea, eb] at h1 h2 h3
    rw [Int.neg_mul] at h1
    by_cases g3 : a % -b = 0
    · refine key (-(a / -b)) 0 (by simp only [g1, g2, fq, ea, eb, g3]; rfl) (by simp only [g1, g2, fr, ea, eb, g3]; rfl) ?_ (by omega) (by omega)
      rw [Int.mul_neg]; omega
    · have g3' : (a % -b != 0) = true := by simpa using g3
      refine key (-(a / -b + 1)) (-(-b - a % -b)) (by simp only [g1, g2, fq, ea, eb, g3']; rfl) (by simp only [g1, g2, fr, ea, eb, g3']; rfl) ?_ (by omega) (by omega)
      rw [Int.mul_neg, Int.mul_add]; omega
  · have ea : sizeI a = a := if_neg g1
    have eb : sizeI b = b := if_neg g2
    rw [ea, eb] at h1 h2 h3
    exact key (a / b) (a % b) (by simp [g1, g2, fq, ea, eb]) (by simp [g1, g2, fr, ea, eb]) (by omega) (by omega) (by omega)
theorem sizeI_range {a : Int} (h0 : -9223372036854775808 ≤ a) (h1 : a < 9223372036854775808) : 0 ≤ sizeI a ∧ sizeI a ≤ 9223372036854775808 := by
  unfold sizeI; split <;> omega
theorem sizeI_pos {b : Int} (hb : b ≠ 0) : 0 < sizeI b := by unfold sizeI; split <;> omega
theorem fq_range {a b : Int} (h0 : -9223372036854775808 ≤ a) (h1 : a < 9223372036854775808) (hb : b ≠ 0) : 0 ≤ fq a b ∧ fq a b < 18446744073709551616 := by
  obtain ⟨s1, s2⟩ := sizeI_range h0 h1
  have hs := sizeI_pos hb
  have q0 : 0 ≤ sizeI a / sizeI b := Int.ediv_nonneg s1 (by omega)
  have q1 : sizeI a / sizeI b ≤ sizeI a := Int.ediv_le_self _ s1
  unfold fq; split <;> omega
theorem fr_range {a b : Int} (hb : b ≠ 0) : 0 ≤ fr a b ∧ fr a b < sizeI b := by
  have hs := sizeI_pos hb
  have r0 := Int.emod_nonneg (sizeI a) (b := sizeI b) (by omega)
  have r1 := Int.emod_lt_of_pos (sizeI a) hs
  unfold fr
  split
  · rename_i h
    simp at h
    omega
  · omega
/-- a product of sizes is the product's size -/
theorem size_mul (a b : Int) : sizeI a * sizeI b = (if (decide (a < 0) != decide (b < 0)) = true then -(a * b) else a * b) := by
  unfold sizeI
  by_cases h1 : a < 0 <;> by_cases h2 : b < 0 <;> simp [h1, h2, Int.neg_mul, Int.mul_neg]
theorem sign_mul (a b : Int) (ha : a ≠ 0) (hb : b ≠ 0) : (a * b < 0 ↔ (decide (a < 0) != decide (b < 0)) = true) ∧ a * b ≠ 0 := by
  have hne : a * b ≠ 0 := Int.mul_ne_zero ha hb
  refine ⟨?_, hne⟩
  have h := size_mul a b
  have h0 : 0 < sizeI a * sizeI b := Int.mul_pos (sizeI_pos ha) (sizeI_pos hb)
  rw [h] at h0
  split at h0
  · rename_i g; exact ⟨fun _ => g, fun _ => by omega⟩
  · rename_i g; exact ⟨fun h => by omega, fun h => absurd h g⟩

/-! ### wrapped -/
theorem wrap_cases (n : Int) : ∃ k : Int, IntKind.i64.wrap n = n + k * 18446744073709551616 ∧ -9223372036854775808 ≤ IntKind.i64.wrap n ∧ IntKind.i64.wrap n < 9223372036854775808 := by
  rw [IntKind.wrap_i64]
  refine ⟨-((n + 9223372036854775808) / 18446744073709551616), by omega, by omega, by omega⟩
theorem wrap_in {n : Int} (h : -9223372036854775808 ≤ n ∧ n < 9223372036854775808) : IntKind.i64.wrap n = n := by
  obtain ⟨k, h1, h2, h3⟩ := wrap_cases n
  omega
/-- a wrapped product that divides back to the factor, with the right sign, is the product -/
theorem mul_back (a b p : Int) (ha : a ≠ 0) (hb : b ≠ 0) (b0 : -9223372036854775808 ≤ b) (b1 : b < 9223372036854775808) (hp : IntKind.i64.wrap (a * b) = p)
    (hs : (decide (p < 0) != (decide (a < 0) != decide (b < 0))) = false) (hq : IntKind.i64.wrap (p.tdiv b) = a) : p = a * b := by
  obtain ⟨k, h1, h2, h3⟩ := wrap_cases (a * b)
  rw [hp] at h1 h2 h3
  obtain ⟨s1, s2⟩ := sign_mul a b ha hb
  obtain ⟨t1, t2, t3, t4, t5⟩ := tdiv_spec p b hb
  by_cases he : p = -9223372036854775808 ∧ b = -1
  · obtain ⟨rfl, rfl⟩ := he
    have e : (-9223372036854775808 : Int).tdiv (-1) = 9223372036854775808 := by decide
    rw [e] at hq
    have e2 : IntKind.i64.wrap 9223372036854775808 = -9223372036854775808 := by decide
    rw [e2] at hq
    subst hq
    revert hs; decide
  · have hr : -9223372036854775808 ≤ p.tdiv b ∧ p.tdiv b < 9223372036854775808 := by
      have hn : (p.tdiv b).natAbs = p.natAbs / b.natAbs := Int.natAbs_tdiv p b
      have hl : p.natAbs / b.natAbs ≤ p.natAbs := Nat.div_le_self _ _
      by_cases hm : p = -9223372036854775808
      · have : b ≠ -1 := fun h => he ⟨hm, h⟩
        by_cases h1' : b = 1
        · subst h1'; rw [Int.tdiv_one]; omega
        · have : 2 ≤ b.natAbs := by omega
          have : p.natAbs / b.natAbs ≤ p.natAbs / 2 := Nat.div_le_div_left this (by omega)
          omega
      · omega
    rw [wrap_in hr] at hq
    rw [hq, Int.mul_comm] at t1
    omega
theorem mul_in (a b : Int) (ha : a ≠ 0) (hb : b ≠ 0) (a0 : -9223372036854775808 ≤ a) (a1 : a < 9223372036854775808) :
    (decide (a * b < 0) != (decide (a < 0) != decide (b < 0))) = false ∧ IntKind.i64.wrap ((a * b).tdiv b) = a := by
  obtain ⟨s1, s2⟩ := sign_mul a b ha hb
  refine ⟨?_, ?_⟩
  · cases h : (decide (a < 0) != decide (b < 0)) with
    | true => rw [decide_eq_true (s1.2 h)]; rfl
    | false => rw [decide_eq_false (fun g => by rw [s1.1 g] at h; cases h)]; rfl
  · rw [Int.mul_tdiv_cancel _ hb]
    exact wrap_in ⟨a0, a1⟩
end Go.Proofs.YtgdillnpehmcbaaGreatDoor.W.Nu
/- Contracts of package num on two whole numbers. -/
namespace Go.Proofs.YtgdillnpehmcbaaGreatDoor.W.Nu
open Go.ChangeShapes Go.WideShapes Go.RowKit
/-- a result, as the calls hand it back -/
def resV (r : Res) : Value := .tuple #[.agg #[.bool r.w, .int .i64 r.i, .int .u64 r.u], .int .i64 r.e]

set_option maxHeartbeats 1000000 in
theorem addW_in (a b s : Int) (hs : IntKind.i64.wrap (a + b) = s) (hC : (s < a ∧ b < 0) ∨ (¬ s < a ∧ ¬ b < 0)) (w : World) :
    Calls Tryz.prog 153 #[.int .i64 a, .int .i64 b] w fun e w' => e = .returned (.tuple #[.agg #[.bool true, .int .i64 s, .int .u64 0], .int .i64 0]) ∧ Gr w w' := by
  rcases hC with ⟨h1, h2⟩ | ⟨h1, h2⟩
  all_goals
    go_enter Tryz.func153, Tryz.ntmps153
    go_wp2_with (go_at_call 156; refine (numWhole_c _ _).mono ?_; rintro e w' ⟨rfl, hg⟩; obtain ⟨fR, fz, hG⟩ := hg.one (Nat.zero_lt_succ _); clear hg)
    exact bodyPost_ret (v := .tuple #[.agg #[.bool true, .int .i64 s, .int .u64 0], .int .i64 0]) (by simp [results, Tryz.results153, go_sem, fR]) rfl ⟨rfl, ((hG.store (Nat.le_refl _) _).store (Nat.le_refl _) _).store (Nat.le_refl _) _⟩
set_option maxHeartbeats 1000000 in
theorem addW_out (a b s : Int) (hs : IntKind.i64.wrap (a + b) = s) (hC : (s < a ∧ ¬ b < 0) ∨ (¬ s < a ∧ b < 0)) (w : World) :
    Calls Tryz.prog 153 #[.int .i64 a, .int .i64 b] w fun e w' => e = .returned (.tuple #[.agg #[.bool false, .int .i64 0, .int .u64 0], .int .i64 10]) ∧ Gr w w' := by
  rcases hC with ⟨h1, h2⟩ | ⟨h1, h2⟩
  all_goals
    go_enter Tryz.func153, Tryz.ntmps153
    go_wp2_with (go_at_call 155; refine (refused_c _ _).mono ?_; rintro e w' ⟨rfl, hg⟩; obtain ⟨fR, fz, hG⟩ := hg.one (Nat.zero_lt_succ _); clear hg)
    exact bodyPost_ret (v := .tuple #[.agg #[.bool false, .int .i64 0, .int .u64 0], .int .i64 10]) (by simp [results, Tryz.results153, go_sem, fR]) rfl ⟨rfl, ((hG.store (Nat.le_refl _) _).store (Nat.le_refl _) _).store (Nat.le_refl _) _⟩
theorem addW_c (a b : Int) (a0 : -9223372036854775808 ≤ a) (a1 : a < 9223372036854775808) (b0 : -9223372036854775808 ≤ b) (b1 : b < 9223372036854775808) (w : World) :
    Calls Tryz.prog 153 #[.int .i64 a, .int .i64 b] w fun e w' => e = .returned (resV (fitR (a + b))) ∧ Gr w w' := by
  by_cases h : -9223372036854775808 ≤ a + b ∧ a + b < 9223372036854775808
  · rw [fitR_in h]
    exact addW_in a b (a + b) (wrap_in h) (by omega) w
  · rw [fitR_out h]
    obtain ⟨k, h1, h2, h3⟩ := wrap_cases (a + b)
    exact addW_out a b _ rfl (by omega) w
set_option maxHeartbeats 1000000 in
theorem subW_in (a b s : Int) (hs : IntKind.i64.wrap (a - b) = s) (hC : (a < s ∧ b < 0) ∨ (¬ a < s ∧ ¬ b < 0)) (w : World) :
    Calls Tryz.prog 99 #[.int .i64 a, .int .i64 b] w fun e w' => e = .returned (.tuple #[.agg #[.bool true, .int .i64 s, .int .u64 0], .int .i64 0]) ∧ Gr w w' := by
  rcases hC with ⟨h1, h2⟩ | ⟨h1, h2⟩
  all_goals
    go_enter Tryz.func99, Tryz.ntmps99
    go_wp2_with (go_at_call 156; refine (numWhole_c _ _).mono ?_; rintro e w' ⟨rfl, hg⟩; obtain ⟨fR, fz, hG⟩ := hg.one (Nat.zero_lt_succ _); clear hg)
    exact bodyPost_ret (v := .tuple #[.agg #[.bool true, .int .i64 s, .int .u64 0], .int .i64 0]) (by simp [results, Tryz.results99, go_sem, fR]) rfl ⟨rfl, ((hG.store (Nat.le_refl _) _).store (Nat.le_refl _) _).store (Nat.le_refl _) _⟩
set_option maxHeartbeats 1000000 in
theorem subW_out (a b s : Int) (hs : IntKind.i64.wrap (a - b) = s) (hC : (a < s ∧ ¬ b < 0) ∨ (¬ a < s ∧ b < 0)) (w : World) :
    Calls Tryz.prog 99 #[.int .i64 a, .int .i64 b] w fun e w' => e = .returned (.tuple #[.agg #[.bool false, .int .i64 0, .int .u64 0], .int .i64 10]) ∧ Gr w w' := by
  rcases hC with ⟨h1, h2⟩ | ⟨h1, h2⟩
  all_goals
    go_enter Tryz.func99, Tryz.ntmps99
    go_wp2_with (go_at_call 155; refine (refused_c _ _).mono ?_; rintro e w' ⟨rfl, hg⟩; obtain ⟨fR, fz, hG⟩ := hg.one (Nat.zero_lt_succ _); clear hg)
    exact bodyPost_ret (v := .tuple #[.agg #[.bool false, .int .i64 0, .int .u64 0], .int .i64 10]) (by simp [results, Tryz.results99, go_sem, fR]) rfl ⟨rfl, ((hG.store (Nat.le_refl _) _).store (Nat.le_refl _) _).store (Nat.le_refl _) _⟩
theorem subW_c (a b : Int) (a0 : -9223372036854775808 ≤ a) (a1 : a < 9223372036854775808) (b0 : -9223372036854775808 ≤ b) (b1 : b < 9223372036854775808) (w : World) :
    Calls Tryz.prog 99 #[.int .i64 a, .int .i64 b] w fun e w' => e = .returned (resV (fitR (a - b))) ∧ Gr w w' := by
  by_cases h : -9223372036854775808 ≤ a - b ∧ a - b < 9223372036854775808
  · rw [fitR_in h]
    exact subW_in a b (a - b) (wrap_in h) (by omega) w
  · rw [fitR_out h]
    obtain ⟨k, h1, h2, h3⟩ := wrap_cases (a - b)
    exact subW_out a b _ rfl (by omega) w
set_option maxHeartbeats 1000000 in
theorem mulW_zero (a b : Int) (hC : a = 0 ∨ ((a == 0) = false ∧ b = 0)) (w : World) :
    Calls Tryz.prog 103 #[.int .i64 a, .int .i64 b] w fun e w' => e = .returned (.tuple #[.agg #[.bool true, .int .i64 0, .int .u64 0], .int .i64 0]) ∧ Gr w w' := by
  rcases hC with rfl | ⟨h1, rfl⟩
  all_goals
    go_enter Tryz.func103, Tryz.ntmps103
    go_wp2_with (go_at_call 156; refine (numWhole_c _ _).mono ?_; rintro e w' ⟨rfl, hg⟩; obtain ⟨fR, fz, hG⟩ := hg.one (Nat.zero_lt_succ _); clear hg)
    exact bodyPost_ret (v := .tuple #[.agg #[.bool true, .int .i64 0, .int .u64 0], .int .i64 0]) (by simp [results, Tryz.results103, go_sem, fR]) rfl ⟨rfl, ((hG.store (Nat.le_refl _) _).store (Nat.le_refl _) _).store (Nat.le_refl _) _⟩
set_option maxHeartbeats 1000000 in
theorem mulW_in (a b p q : Int) (ha : (a == 0) = false) (hb : (b == 0) = false) (hb' : ¬ b = 0) (hp : IntKind.i64.wrap (a * b) = p) (hq : IntKind.i64.wrap (p.tdiv b) = q) (h1 : (decide (p < 0) != (decide (a < 0) != decide (b < 0))) = false) (h2 : (q != a) = false) (w : World) :
    Calls Tryz.prog 103 #[.int .i64 a, .int .i64 b] w fun e w' => e = .returned (.tuple #[.agg #[.bool true, .int .i64 p, .int .u64 0], .int .i64 0]) ∧ Gr w w' := by
  by_cases x1 : p < 0 <;> by_cases x2 : a < 0 <;> by_cases x3 : b < 0 <;> simp only [x1, x2, x3, decide_true, decide_false] at h1 <;> first | (exact absurd h1 (by decide)) | skip
  all_goals
    clear h1
    go_enter Tryz.func103, Tryz.ntmps103
    go_wp2_with (go_at_call 156; refine (numWhole_c _ _).mono ?_; rintro e w' ⟨rfl, hg⟩; obtain ⟨fR, fz, hG⟩ := hg.one (Nat.zero_lt_succ _); clear hg)
    exact bodyPost_ret (v := .tuple #[.agg #[.bool true, .int .i64 p, .int .u64 0], .int .i64 0]) (by simp [results, Tryz.results103, go_sem, fR]) rfl ⟨rfl, ((hG.store (Nat.le_refl _) _).store (Nat.le_refl _) _).store (Nat.le_refl _) _⟩
set_option maxHeartbeats 1000000 in
theorem mulW_out (a b p q : Int) (ha : (a == 0) = false) (hb : (b == 0) = false) (hb' : ¬ b = 0) (hp : IntKind.i64.wrap (a * b) = p) (hq : IntKind.i64.wrap (p.tdiv b) = q) (hC : (decide (p < 0) != (decide (a < 0) != decide (b < 0))) = true ∨ ((decide (p < 0) != (decide (a < 0) != decide (b < 0))) = false ∧ (q != a) = true)) (w : World) :
    Calls Tryz.prog 103 #[.int .i64 a, .int .i64 b] w fun e w' => e = .returned (.tuple #[.agg #[.bool false, .int .i64 0, .int .u64 0], .int .i64 10]) ∧ Gr w w' := by
  rcases hC with h1 | ⟨h1, h2⟩ <;> by_cases x1 : p < 0 <;> by_cases x2 : a < 0 <;> by_cases x3 : b < 0 <;> simp only [x1, x2, x3, decide_true, decide_false] at h1 <;> first | (exact absurd h1 (by decide)) | skip
  all_goals
    clear h1
    go_enter Tryz.func103, Tryz.ntmps103
    go_wp2_with (go_at_call 155; refine (refused_c _ _).mono ?_; rintro e w' ⟨rfl, hg⟩; obtain ⟨fR, fz, hG⟩ := hg.one (Nat.zero_lt_succ _); clear hg)
    exact bodyPost_ret (v := .tuple #[.agg #[.bool false, .int .i64 0, .int .u64 0], .int .i64 10]) (by simp [results, Tryz.results103, go_sem, fR]) rfl ⟨rfl, ((hG.store (Nat.le_refl _) _).store (Nat.le_refl _) _).store (Nat.le_refl _) _⟩
theorem mulW_c (a b : Int) (a0 : -9223372036854775808 ≤ a) (a1 : a < 9223372036854775808) (b0 : -9223372036854775808 ≤ b) (b1 : b < 9223372036854775808) (w : World) :
    Calls Tryz.prog 103 #[.int .i64 a, .int .i64 b] w fun e w' => e = .returned (resV (fitR (a * b))) ∧ Gr w w' := by
  by_cases ha : a = 0
  · subst ha
    rw [Int.zero_mul, fitR_in (by omega)]
    exact mulW_zero 0 b (Or.inl rfl) w
  · by_cases hb : b = 0
    · subst hb
      rw [Int.mul_zero, fitR_in (by omega)]
      exact mulW_zero a 0 (Or.inr ⟨by simpa using ha, rfl⟩) w
    · by_cases h : -9223372036854775808 ≤ a * b ∧ a * b < 9223372036854775808
      · rw [fitR_in h]
        obtain ⟨m1, m2⟩ := mul_in a b ha hb a0 a1
        exact mulW_in a b (a * b) a (by simpa using ha) (by simpa using hb) hb (wrap_in h) m2 m1 (by simp) w
      · rw [fitR_out h]
        refine mulW_out a b _ _ (by simpa using ha) (by simpa using hb) hb rfl rfl ?_ w
        cases h1 : (decide (IntKind.i64.wrap (a * b) < 0) != (decide (a < 0) != decide (b < 0))) with
        | true => exact Or.inl rfl
        | false =>
          refine Or.inr ⟨rfl, ?_⟩
          rw [bne_iff_ne]
          intro hq
          have := mul_back a b _ ha hb b0 b1 rfl h1 hq
          obtain ⟨k, h1, h2, h3⟩ := wrap_cases (a * b)
          omega
end Go.Proofs.YtgdillnpehmcbaaGreatDoor.W.Nu
