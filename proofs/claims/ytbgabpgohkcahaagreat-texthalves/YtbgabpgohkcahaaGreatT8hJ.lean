import Derived.Test.YtbgabpgohkcahaaGreatT8gJ
/- Strings: parts of what was put together; how they compare. -/
namespace Go.Proofs.YtbgabpgohkcahaaGreat.W
open Go.ChangeShapes Go.WideShapes Go.RowKit Go.Shelf
set_option linter.unusedVariables false
theorem part_left (s t : ByteArray) : (s ++ t).extract 0 s.size = s := by
  apply ByteArray.ext
  rw [ByteArray.data_extract, ByteArray.data_append]
  show (s.data ++ t.data).extract 0 s.data.size = s.data
  simp
theorem part_right (s t : ByteArray) : (s ++ t).extract s.size (s.size + t.size) = t := by
  apply ByteArray.ext
  rw [ByteArray.data_extract, ByteArray.data_append]
  generalize hx : s.data = x
  generalize hy : t.data = y
  have e1 : s.size = x.size := by rw [← hx]; rfl
  have e2 : t.size = y.size := by rw [← hy]; rfl
  rw [e1, e2]
  apply Array.toList_inj.1
  simp
theorem ba_toList (s : ByteArray) : s.toList = s.data.toList := by
  have := ByteArray.toList_eq s
  exact this
theorem less_ord (x : List UInt8) : ∀ y, Op.bytesLess x y = decide (ordL (x.map UInt8.toNat) (y.map UInt8.toNat) < 0) := by
  induction x with
  | nil => intro y; cases y <;> simp [Op.bytesLess, ordL]
  | cons a x ih => intro y; cases y with
    | nil => simp [Op.bytesLess, ordL]
    | cons b y =>
      simp only [Op.bytesLess, List.map_cons, ordL]
      by_cases c : a = b
      · subst c
        have : ¬ a < a := by simp
        simp [ih]
      · have c' : ¬ a.toNat = b.toNat := fun e => c (UInt8.toNat_inj.1 e)
        rw [if_neg c']
        by_cases d : a < b
        · have d' : a.toNat < b.toNat := UInt8.lt_iff_toNat_lt.1 d
          simp [d, d']
        · have d' : ¬ a.toNat < b.toNat := fun e => d (UInt8.lt_iff_toNat_lt.2 e)
          simp [d, d', c]
theorem eq_ord (s t : ByteArray) : (s.toList == t.toList) = decide (ordL (byL s) (byL t) = 0) := by
  by_cases c : s = t
  · subst c
    simp [ordL_self]
  · have h1 : s.toList ≠ t.toList := by
      intro e
      rw [ba_toList, ba_toList] at e
      exact c (ByteArray.ext (Array.toList_inj.1 e))
    have h2 : ordL (byL s) (byL t) ≠ 0 := by
      intro e
      have e2 := ordL_eq _ _ e
      unfold byL at e2
      have e3 : s.data.toList = t.data.toList := by
        refine List.map_inj_right (f := UInt8.toNat) (fun a b h => UInt8.toNat_inj.1 h) |>.1 e2
      exact c (ByteArray.ext (Array.toList_inj.1 e3))
    simp [h1, h2]
theorem lt_ord (s t : ByteArray) : Op.bytesLess s.toList t.toList = decide (ordL (byL s) (byL t) < 0) := by
  rw [less_ord, ba_toList, ba_toList]; rfl
theorem ordL_range (x : List Nat) : ∀ y, ordL x y = -1 ∨ ordL x y = 0 ∨ ordL x y = 1 := by
  induction x with
  | nil => intro y; cases y <;> simp [ordL]
  | cons a x ih => intro y; cases y with
    | nil => simp [ordL]
    | cons b y =>
      unfold ordL
      split
      · exact ih y
      · split <;> simp
/-- behind a string that was boxed, what is wanted of it -/
def TPost (W0 : World) (hb : Nat) (H : List (Option Hc)) (u : Nat) (K : Nat → Prop) (t : ByteArray) (e : Ending) (w' : World) : Prop := ∃ (w : Nat) (H' : List (Option Hc)), e = .returned (.tuple #[.int .u64 (w : Nat), .int .i64 0]) ∧ Hf W0 w' hb H' u K ∧ Ext H H' ∧ IsTxt H' w t ∧ sumH H' ≤ sumH H + tneed t ∧ H'.length ≤ H.length + 1
section
variable {W0 W W1 W' : World} {hb : Nat} {H : List (Option Hc)} {u : Nat} {K K' : Nat → Prop}
theorem TxtPost.t {t : ByteArray} {e : Ending} (h : TxtPost W0 W1 hb H u K t e W') : TPost W0 hb H u K t e W' := by
  obtain ⟨w, H', h1, h2, h3, h4, h5, h6, _⟩ := h
  exact ⟨w, H', h1, h2, h3, h4, h5, h6⟩
theorem box0 (q : Hf W0 W1 hb H u K) (t : ByteArray) (hl : t.size ≤ 8388608) (hf : sumH H + tneed t ≤ u) (hH : H.length ≤ 1000000) : Calls Tryz.prog 7 #[.pointer (some ⟨hb, 0, none⟩), .agg #[.int .i64 4, .int .i64 0, .int .u64 0, .string t, .int .u64 0], .slice none 0 0] W1 (TPost W0 hb H u K t) :=
  (boxT q _ [] (words_nil' W1) t hl hf hH).mono (fun e w' h => h.t)
theorem box1 (q : Hf W0 W1 hb H u K) (x : Nat) (hx : x < 18446744073709551616) (t : ByteArray) (hl : t.size ≤ 8388608) (hf : sumH H + tneed t ≤ u) (hH : H.length ≤ 1000000) : Calls Tryz.prog 7 #[.pointer (some ⟨hb, 0, none⟩), .agg #[.int .i64 4, .int .i64 0, .int .u64 0, .string t, .int .u64 0], .slice (some ⟨W1.heap.size, 0, none⟩) 1 1] (W1.alloc (.cells #[.int .u64 (x : Nat)] 26)) (TPost W0 hb H u K t) :=
  (boxT (q.below' ((Below.refl _ W1).alloc (Nat.le_refl _) _)) _ [x] (words_lit W1 [x] (by simp) (by intro z hz; simp at hz; rw [hz]; exact hx)) t hl hf hH).mono (fun e w' h => h.t)
theorem sub2 (q : Hf W0 W1 hb H u K) (x y : Nat) (hx : x < 18446744073709551616) (hy : y < 18446744073709551616) (a : Nat) (r : ByteArray) (hr : IsTxt H a r) (i j : Nat) (hij : i ≤ j) (hj : j ≤ r.size) (hl : r.size ≤ 8388608) (p : ByteArray) (hp : r.extract i j = p) (hl2 : p.size ≤ 8388608) (hf : sumH H + tneed p ≤ u) (hH : H.length ≤ 1000000) : Calls Tryz.prog 10 #[.pointer (some ⟨hb, 0, none⟩), .int .u64 a, .int .i64 i, .int .i64 j, .slice (some ⟨W1.heap.size, 0, none⟩) 2 2] (W1.alloc (.cells #[.int .u64 (x : Nat), .int .u64 (y : Nat)] 26)) (TPost W0 hb H u K p) := by
  subst hp
  exact (sub_c (q.below' ((Below.refl _ W1).alloc (Nat.le_refl _) _)) _ [x, y] (words_lit W1 [x, y] (by simp) (by intro z hz; simp at hz; rcases hz with rfl | rfl; exact hx; exact hy)) (by simp) a r hr i j hij hj hl hl2 hf hH).mono (fun e w' h => h.t)
theorem sub3 (q : Hf W0 W1 hb H u K) (x y z : Nat) (hx : x < 18446744073709551616) (hy : y < 18446744073709551616) (hz : z < 18446744073709551616) (a : Nat) (r : ByteArray) (hr : IsTxt H a r) (i j : Nat) (hij : i ≤ j) (hj : j ≤ r.size) (hl : r.size ≤ 8388608) (p : ByteArray) (hp : r.extract i j = p) (hl2 : p.size ≤ 8388608) (hf : sumH H + tneed p ≤ u) (hH : H.length ≤ 1000000) : Calls Tryz.prog 10 #[.pointer (some ⟨hb, 0, none⟩), .int .u64 a, .int .i64 i, .int .i64 j, .slice (some ⟨W1.heap.size, 0, none⟩) 3 3] (W1.alloc (.cells #[.int .u64 (x : Nat), .int .u64 (y : Nat), .int .u64 (z : Nat)] 26)) (TPost W0 hb H u K p) := by
  subst hp
  exact (sub_c (q.below' ((Below.refl _ W1).alloc (Nat.le_refl _) _)) _ [x, y, z] (words_lit W1 [x, y, z] (by simp) (by intro v hv; simp at hv; rcases hv with rfl | rfl | rfl; exact hx; exact hy; exact hz)) (by simp) a r hr i j hij hj hl hl2 hf hH).mono (fun e w' h => h.t)
end
end Go.Proofs.YtbgabpgohkcahaaGreat.W
