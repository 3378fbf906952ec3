import Derived.Test.YtbgabpgohkcahaaGreatT8dJ
/- Package text: box, Concat, Sub. -/
namespace Go.Proofs.YtbgabpgohkcahaaGreat.W
open Go.ChangeShapes Go.WideShapes Go.RowKit Go.Shelf
set_option linter.unusedVariables false
section
variable {W0 W W1 W' : World} {hb : Nat} {H : List (Option Hc)} {u : Nat} {K K' : Nat → Prop}
set_option maxRecDepth 100000 in
theorem tbox_c (q : Hf W0 W1 hb H u K) (vr vo : Value) (rs ro : List Nat) (hr : WordsAt W1 vr rs) (ho : WordsAt W1 vo ro) (hro : 0 < ro.length) (hll : rs.length + ro.length ≤ 1000000) (t : ByteArray) (hl : t.size ≤ 8388608) (hf : sumH H + tneed t ≤ u) (hH : H.length ≤ 1000000) : Calls Tryz.prog 26 #[.pointer (some ⟨hb, 0, none⟩), .string t, vr, vo] W1 (TxtPost W0 W1 hb H u K t) := by
  have hr' := hr
  have ho' := ho
  obtain ⟨o1, cap1, hvr, -⟩ := hr'
  obtain ⟨o2, cap2, hvo, -⟩ := ho'
  subst hvr
  subst hvo
  generalize hn1 : rs.length = n1 at *
  generalize hn2 : ro.length = n2 at *
  have N1 := hid hn1
  have N2 := hid hn2
  clear hn1 hn2
  have hB1 : Below W1.heap.size W1 (W1.alloc (.cells #[.slice o1 n1 cap1, .slice o2 n2 cap2] 31)) := (Below.refl _ W1).alloc (Nat.le_refl _) _
  have e0 := World.cell?_alloc_new W1 #[.slice o1 n1 cap1, .slice o2 n2 cap2] 31
  have cs := sconcat_c (W1.alloc (.cells #[.slice o1 n1 cap1, .slice o2 n2 cap2] 31)) W1.heap.size 2 (.slice o1 n1 cap1) (.slice o2 n2 cap2) rs ro (e0 0) (e0 1) (words_below hr hB1) (words_below ho hB1) (by rw [N1.out, N2.out]; exact hll) (by rw [N2.out]; exact hro)
  have cx : ∀ (w2 : World) (v : Value), Below (W1.alloc (.cells #[.slice o1 n1 cap1, .slice o2 n2 cap2] 31)).heap.size (W1.alloc (.cells #[.slice o1 n1 cap1, .slice o2 n2 cap2] 31)) w2 → WordsAt w2 v (rs ++ ro) → Calls Tryz.prog 7 #[.pointer (some ⟨hb, 0, none⟩), .agg #[.int .i64 4, .int .i64 0, .int .u64 0, .string t, .int .u64 0], v] w2 (TxtPost W0 W1 hb H u K t) := by
    intro w2 v hB2 hw2
    have hB := hB1.trans (hB2.mono hB1.size)
    exact (boxT (q.below' hB) v _ hw2 t hl hf hH).mono (fun e w' h => h.on hB)
  clear e0 hB1 q hr ho hro hll hl hf hH
  go_enter Tryz.func26, Tryz.ntmps26
  go_wp2_with (first | (go_at_call 40; (with_reducible refine cs.mono ?_); rintro e w2 ⟨v, rfl, hB2, hw2⟩; clear cs) | (go_at_call 7; (with_reducible refine (cx _ _ hB2 hw2).mono ?_); intro e w3 h3; (obtain ⟨x, y, rfl⟩ := h3.two); clear cx))
  go_ret2
  exact h3
set_option maxRecDepth 100000 in
theorem concat_c (q : Hf W0 W1 hb H u K) (vr : Value) (rs : List Nat) (hr : WordsAt W1 vr rs) (hll : rs.length ≤ 999998) (a b : Nat) (x y : ByteArray) (hx : IsTxt H a x) (hy : IsTxt H b y) (hl : (x ++ y).size ≤ 8388608) (hf : sumH H + tneed (x ++ y) ≤ u) (hH : H.length ≤ 1000000) : Calls Tryz.prog 8 #[.pointer (some ⟨hb, 0, none⟩), .int .u64 a, .int .u64 b, vr] W1 (TxtPost W0 W1 hb H u K (x ++ y)) := by
  obtain ⟨o1, cap1, hvr, -⟩ := id hr
  subst hvr
  have ca := both_c q.2.choose_spec.1 a b x y hx hy
  have cx : ∀ (w2 : World), Below W1.heap.size W1 w2 → Calls Tryz.prog 26 #[.pointer (some ⟨hb, 0, none⟩), .string (x ++ y), .slice o1 rs.length cap1, .slice (some ⟨w2.heap.size, 0, none⟩) 2 2] (w2.alloc (.cells #[.int .u64 a, .int .u64 b] 26)) (TxtPost W0 W1 hb H u K (x ++ y)) := by
    intro w2 hB2
    have hB3 : Below w2.heap.size w2 (w2.alloc (.cells #[.int .u64 a, .int .u64 b] 26)) := (Below.refl _ w2).alloc (Nat.le_refl _) _
    have hB := hB2.trans (hB3.mono hB2.size)
    have ho : WordsAt (w2.alloc (.cells #[.int .u64 a, .int .u64 b] 26)) (.slice (some ⟨w2.heap.size, 0, none⟩) 2 2) [a, b] := by
      have e0 := World.cell?_alloc_new w2 #[.int .u64 a, .int .u64 b] 26
      refine ⟨_, _, rfl, by simp, ?_, ?_⟩
      · intro z hz
        simp at hz
        rcases hz with rfl | rfl
        · exact hx.lt
        · exact hy.lt
      · intro i hi
        refine ⟨_, rfl, ?_⟩
        have e1 : ((⟨w2.heap.size, 0, none⟩ : Addr).add i) = ⟨w2.heap.size, i, none⟩ := by unfold Addr.add; split <;> simp_all
        rw [e1, e0 i]
        have : i = 0 ∨ i = 1 := by simp at hi; omega
        rcases this with rfl | rfl <;> rfl
    exact (tbox_c (q.below' hB) _ _ rs [a, b] (words_below hr hB) ho (by simp) (by simp; omega) (x ++ y) hl hf hH).mono (fun e w' h => h.on hB)
  clear q hr hll hx hy hf hH
  have hm : ¬ 9223372036854775807 < x.size + y.size := by rw [← ByteArray.size_append]; omega
  clear hl
  go_enter Tryz.func8, Tryz.ntmps8
  go_wp2_with (first | (go_at_call 25; (with_reducible refine ca.mono ?_); rintro e w2 ⟨rfl, hB2⟩; clear ca) | (go_at_call 26; (with_reducible refine (cx _ hB2).mono ?_); intro e w3 h3; (obtain ⟨x, y, rfl⟩ := h3.two); clear cx))
  go_ret2
  exact h3
set_option maxRecDepth 100000 in
theorem sub_c (q : Hf W0 W1 hb H u K) (vr : Value) (rs : List Nat) (hr : WordsAt W1 vr rs) (hll : rs.length ≤ 999998) (a : Nat) (x : ByteArray) (hx : IsTxt H a x) (i j : Nat) (hij : i ≤ j) (hj : j ≤ x.size) (hl : x.size ≤ 8388608) (hl2 : (x.extract i j).size ≤ 8388608) (hf : sumH H + tneed (x.extract i j) ≤ u) (hH : H.length ≤ 1000000) : Calls Tryz.prog 10 #[.pointer (some ⟨hb, 0, none⟩), .int .u64 a, .int .i64 i, .int .i64 j, vr] W1 (TxtPost W0 W1 hb H u K (x.extract i j)) := by
  obtain ⟨o1, cap1, hvr, -⟩ := id hr
  subst hvr
  have ca := of_c q.2.choose_spec.1 a x hx
  have cx : ∀ (w2 : World), Below W1.heap.size W1 w2 → Calls Tryz.prog 26 #[.pointer (some ⟨hb, 0, none⟩), .string (x.extract i j), .slice o1 rs.length cap1, .slice (some ⟨w2.heap.size, 0, none⟩) 1 1] (w2.alloc (.cells #[.int .u64 a] 26)) (TxtPost W0 W1 hb H u K (x.extract i j)) := by
    intro w2 hB2
    have hB3 : Below w2.heap.size w2 (w2.alloc (.cells #[.int .u64 a] 26)) := (Below.refl _ w2).alloc (Nat.le_refl _) _
    have hB := hB2.trans (hB3.mono hB2.size)
    have ho : WordsAt (w2.alloc (.cells #[.int .u64 a] 26)) (.slice (some ⟨w2.heap.size, 0, none⟩) 1 1) [a] := by
      have e0 := World.cell?_alloc_new w2 #[.int .u64 a] 26
      refine ⟨_, _, rfl, by simp, ?_, ?_⟩
      · intro z hz
        simp at hz
        rw [hz]; exact hx.lt
      · intro i hi
        refine ⟨_, rfl, ?_⟩
        have e1 : ((⟨w2.heap.size, 0, none⟩ : Addr).add i) = ⟨w2.heap.size, i, none⟩ := by unfold Addr.add; split <;> simp_all
        rw [e1, e0 i]
        have : i = 0 := by simp at hi; omega
        subst this; rfl
    exact (tbox_c (q.below' hB) _ _ rs [a] (words_below hr hB) ho (by simp) (by simp; omega) (x.extract i j) hl2 hf hH).mono (fun e w' h => h.on hB)
  have c0 : ¬ (i : Int) < 0 := by omega
  have c1 : ¬ (i : Int) > j := by omega
  have c2 : ¬ (j : Int) > x.size := by omega
  have c3 : (0 : Int) ≤ i := by omega
  have c4 : (i : Int) ≤ j := by omega
  have c5 : (j : Int) ≤ x.size := by omega
  have c6 : IntKind.i64.wrap (x.size : Int) = x.size := by rw [IntKind.wrap_i64]; omega
  clear q hr hll hx hf hH hij hj hl hl2
  go_enter Tryz.func10, Tryz.ntmps10
  go_wp2_with (first | (go_at_call 11; (with_reducible refine ca.mono ?_); rintro e w2 ⟨rfl, hB2⟩; clear ca) | (go_at_call 26; (with_reducible refine (cx _ hB2).mono ?_); intro e w3 h3; (obtain ⟨x, y, rfl⟩ := h3.two); clear cx))
  go_ret2
  exact h3
end
end Go.Proofs.YtbgabpgohkcahaaGreat.W
