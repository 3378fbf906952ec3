import Derived.Test.YtenpopelbmeemaaGreatBase34
/- BufViews: a buffer, a view of it and a view of that, in plain words. -/
namespace Go.Proofs.YtenpopelbmeemaaGreat.W
open Go.ChangeShapes Go.WideShapes Go.RowKit Go.Shelf
set_option linter.unusedVariables false
/-- n noughts, of which k from p on have become y -/
def fil (n p y : Nat) : Nat → List Nat
  | 0 => List.replicate n 0
  | k + 1 => saved (fil n p y k) (p + k * 1) y 1
theorem fil_len (n p y k : Nat) : (fil n p y k).length = n := by
  induction k with
  | zero => exact List.length_replicate
  | succ k ih => show (saved _ _ _ _).length = n; rw [saved_len, ih]
theorem fil_get (n p y k j : Nat) (hy : y < 256) (hk : p + k ≤ n) (hj : j < n) : (fil n p y k)[j]? = some (if p ≤ j ∧ j < p + k then y else 0) := by
  induction k with
  | zero =>
    show (List.replicate n 0)[j]? = _
    rw [List.getElem?_replicate, if_pos hj, if_neg (by omega)]
  | succ k ih =>
    show (saved (fil n p y k) (p + k * 1) y 1)[j]? = _
    rw [saved_get _ _ _ _ _ (by rw [fil_len]; omega)]
    by_cases e : j = p + k
    · subst e
      rw [if_pos (by omega), if_pos (by omega)]
      rw [show p + k - (p + k * 1) = 0 by omega, Nat.pow_zero, Nat.div_one, Nat.mod_eq_of_lt hy]
    · rw [if_neg (by omega), ih (by omega)]
      by_cases c : p ≤ j ∧ j < p + k
      · rw [if_pos c, if_pos (by omega)]
      · rw [if_neg c, if_neg (by omega)]
/-- the heap of the statement -/
def bvH (bs : List Nat) (f s p m : Nat) : List (Option Hc) := [some (.buf 8 bs), some (.view 8 (hw 0) f s), some (.view 8 (hw 0) p m)]
theorem bv_set (bs bs' : List Nat) (f s p m : Nat) : (bvH bs f s p m).set 0 (some (.buf 8 bs')) = bvH bs' f s p m := rfl
theorem bv_hit0 (bs : List Nat) (f s p m : Nat) : hit (bvH bs f s p m) (hw 0) = some 0 := hit_hw (by decide) (show (bvH bs f s p m)[0]? = some (some (.buf 8 bs)) from rfl)
theorem bv_hit2 (bs : List Nat) (f s p m : Nat) : hit (bvH bs f s p m) (hw 2) = some 2 := hit_hw (by decide) (show (bvH bs f s p m)[2]? = some (some (.view 8 (hw 0) p m)) from rfl)
theorem bv_spot0 (bs : List Nat) (f s p m : Nat) : Spot (bvH bs f s p m) (hw 0) 8 0 0 bs.length 8 bs := ⟨hw_lt 0 (by decide), rfl, by omega, 0, bv_hit0 bs f s p m, .inl ⟨rfl, rfl, rfl, rfl, rfl⟩⟩
theorem bv_spot2 (bs : List Nat) (f s p m : Nat) (h : p + m ≤ bs.length) : Spot (bvH bs f s p m) (hw 2) 8 0 p m 8 bs := ⟨hw_lt 2 (by decide), rfl, h, 2, bv_hit2 bs f s p m, .inr ⟨hw 0, m, rfl, bv_hit0 bs f s p m, (Nat.mul_one m).symm⟩⟩
set_option maxRecDepth 100000 in
theorem or_b256 : ∀ y : Fin 256, (18444773748872577024 ||| y.val) = 18444773748872577024 + y.val := by decide
theorem intW_byte (y : Nat) (h : y < 256) : intW (y : Int) = ((18444773748872577024 + y : Nat) : Int) := by
  unfold intW
  rw [if_pos (by unfold smallB; rw [decide_eq_true_eq]; omega)]
  omega
theorem bv_or (y : Nat) (h : y < 256) : bits .or .u64 18444773748872577024 (y : Int) = intW (y : Int) := by
  have h1 := u64_or_nat 18444773748872577024 y (by omega) (by omega)
  have h2 := or_b256 ⟨y, h⟩
  rw [intW_byte y h]
  have h3 : ((18444773748872577024 : Nat) : Int) = 18444773748872577024 := rfl
  rw [h3] at h1
  rw [h1]
  exact congrArg _ h2
theorem bv_seg (bs : List Nat) (k v : Nat) (h : bs[k]? = some v) : leN (seg bs (0 + k * 1) 1) = v := by
  have e : seg bs (0 + k * 1) 1 = [v] := by
    unfold seg
    rw [show 0 + k * 1 = k by omega]
    obtain ⟨hk, hv⟩ := List.getElem?_eq_some_iff.1 h
    rw [List.drop_eq_getElem_cons hk, hv]
    rfl
  rw [e]
  simp [leN]
theorem bv_sum (bs : List Nat) (f s p m : Nat) : sumH (bvH bs f s p m) = 3 + (bs.length + 7) / 8 := by
  show (Hc.buf 8 bs).need + ((Hc.view 8 (hw 0) f s).need + ((Hc.view 8 (hw 0) p m).need + 0)) = _
  rw [bufn_need, view_need, view_need]; omega
section
variable {W0 W W1 : World} {hb u : Nat} {K : Nat → Prop}
/-- the three things, with their words -/
theorem bv_new (q : Hf W0 W hb [] 100 K) (n : Nat) (hn : n ≤ 200) : Calls Tryz.prog 8 #[.pointer (some ⟨hb, 0, none⟩), .int .i64 8, .int .i64 n, .slice none 0 0] W fun e w' => e = .returned (.tuple #[.int .u64 (hw 0 : Nat), .int .i64 0]) ∧ Hf W0 w' hb [some (.buf 8 (List.replicate n 0))] 100 K := by
  refine (bnew_buf q 8 (by decide) n (by show 0 + (1 + (n * 1 + 7) / 8) ≤ 100; omega) (.slice none 0 0) [] (words_nil W _ _)).mono ?_
  rintro e w' ⟨rfl, h1, h2⟩
  refine ⟨rfl, ?_⟩
  have e1 : n * elB 8 = n := Nat.mul_one n
  rw [e1] at h1
  exact h1
theorem bv_v1 (n f s : Nat) (hn : n ≤ 200) (h : f + s ≤ n) (q : Hf W0 W hb [some (.buf 8 (List.replicate n 0))] 100 K) : Calls Tryz.prog 15 #[.pointer (some ⟨hb, 0, none⟩), .int .u64 (hw 0 : Nat), .int .i64 8, .int .i64 f, .int .i64 s, .slice none 0 0] W fun e w' => e = .returned (.tuple #[.int .u64 (hw 1 : Nat), .int .i64 0]) ∧ Hf W0 w' hb [some (.buf 8 (List.replicate n 0)), some (.view 8 (hw 0) f s)] 100 K := by
  have hl : (List.replicate n 0).length = n := List.length_replicate
  refine (bview_buf q (hw 0) (hw_lt 0 (by decide)) 0 (hit_hw (by decide) rfl) 8 (List.replicate n 0) rfl n (by rw [hl]; exact (Nat.mul_one n).symm) 8 (by decide) f s (Nat.mod_one f) (by rw [hl]; omega) (by rw [hl]; show s ≤ (n - f) / 1; omega) ?_ none 0 [] (words_nil W _ _) (by decide)).mono ?_
  · show (Hc.buf 8 (List.replicate n 0)).need + 0 + 1 ≤ 100
    rw [bufn_need, hl]; omega
  · rintro e w' ⟨rfl, h1, h2⟩
    exact ⟨rfl, h1⟩
theorem bv_v2 (n f s i m p y : Nat) (hn : n ≤ 200) (h : f + s ≤ n) (h2 : i + m ≤ s) (hp : f + i = p) (q : Hf W0 W hb [some (.buf 8 (List.replicate n 0)), some (.view 8 (hw 0) f s)] 100 K) :
    Calls Tryz.prog 15 #[.pointer (some ⟨hb, 0, none⟩), .int .u64 (hw 1 : Nat), .int .i64 8, .int .i64 i, .int .i64 m, .slice (some ⟨W.heap.size, 0, none⟩) 1 1] (W.alloc (.cells #[.int .u64 (hw 0 : Nat)] 22)) fun e w' => e = .returned (.tuple #[.int .u64 (hw 2 : Nat), .int .i64 0]) ∧ Hf W0 w' hb (bvH (fil n p y 0) f s p m) 100 K := by
  have hl : (List.replicate n 0).length = n := List.length_replicate
  have hA : Below W.heap.size W (W.alloc (.cells #[.int .u64 (hw 0 : Nat)] 22)) := (Below.refl _ W).alloc (Nat.le_refl _) _
  refine (bview_view (q.below' hA) (hw 1) (hw_lt 1 (by decide)) 1 (hit_hw (by decide) (show [some (Hc.buf 8 (List.replicate n 0)), some (Hc.view 8 (hw 0) f s)][1]? = _ from rfl)) 8 (hw 0) f s rfl 0 (hit_hw (by decide) (show [some (Hc.buf 8 (List.replicate n 0)), some (Hc.view 8 (hw 0) f s)][0]? = _ from rfl)) 8 (List.replicate n 0) rfl (by rw [hl]; show f + s * 1 ≤ n; omega) 8 (by decide) i m (Nat.mod_one _) (by show i ≤ s * 1; omega) (by show m ≤ (s * 1 - i) / 1; omega) ?_ (some ⟨W.heap.size, 0, none⟩) 1 [hw 0] (words_new W [hw 0] _ (by intro x hx; rw [List.mem_singleton.1 hx]; exact hw_lt 0 (by decide)) (by simp) rfl 22) (by decide)).mono ?_
  · show (Hc.buf 8 (List.replicate n 0)).need + ((Hc.view 8 (hw 0) f s).need + 0) + 1 ≤ 100
    rw [bufn_need, view_need, hl]; omega
  · rintro e w' ⟨rfl, h1, h2⟩
    refine ⟨rfl, ?_⟩
    rw [hp] at h1
    exact h1
theorem bv_store (n f s p m k y : Nat) (hp : p + m ≤ n) (hk : k < m) (hy : y < 256) (q : Hf W0 W hb (bvH (fil n p y k) f s p m) 100 K) : Calls Tryz.prog 10 #[.pointer (some ⟨hb, 0, none⟩), .int .u64 (hw 2 : Nat), .int .i64 k, .int .u64 (intW y)] W fun e w' => e = .returned (.int .i64 0) ∧ Hf W0 w' hb (bvH (fil n p y (k + 1)) f s p m) 100 K := by
  refine (hf_oct q (bv_spot2 (fil n p y k) f s p m (by rw [fil_len]; exact hp)) k (by omega) y (by omega)).mono ?_
  rintro e w' ⟨rfl, h1, h2⟩
  exact ⟨rfl, h1⟩
theorem bv_load (n f s p m k y : Nat) (hp : p + m ≤ n) (hk : k < n) (hy : y < 256) (q : Hf W0 W hb (bvH (fil n p y m) f s p m) 100 K) : Calls Tryz.prog 11 #[.pointer (some ⟨hb, 0, none⟩), .int .u64 (hw 0 : Nat), .int .i64 k] W fun e w' => e = .returned (.tuple #[.int .u64 (if p ≤ k ∧ k < p + m then intW y else 18444773748872577024), .int .i64 0]) ∧ Hf W0 w' hb (bvH (fil n p y m) f s p m) 100 K := by
  obtain ⟨sb, vc, T, l⟩ := q.lay
  refine (load_octets l (bv_spot0 (fil n p y m) f s p m) k (by rw [fil_len]; omega) (by decide)).mono ?_
  rintro e w' ⟨rfl, hB⟩
  refine ⟨?_, q.below' hB⟩
  rw [bv_seg _ k _ (fil_get n p y m k hy hp hk)]
  have e8 : ∀ v : Nat, elI 8 v = intW v := fun v => by unfold elI; rw [if_neg (by decide)]
  rw [e8]
  by_cases c : p ≤ k ∧ k < p + m
  · rw [if_pos c, if_pos c]
  · rw [if_neg c, if_neg c]
    have : intW ((0 : Nat) : Int) = 18444773748872577024 := by decide
    rw [this]
theorem bv_get (bs : List Nat) (f s p m : Nat) (q : Hf W0 W hb (bvH bs f s p m) 100 K) : Calls Tryz.prog 16 #[.pointer (some ⟨hb, 0, none⟩), .int .u64 (hw 2 : Nat)] W fun e w' => e = .returned (.tuple #[.agg #[.int .i64 8, .bool true, .int .i64 0, .string ⟨#[]⟩, .slice none 0 0, .slice none 0 0, .int .u64 (hw 0 : Nat), .int .i64 p, .int .i64 m], .int .i64 0]) ∧ Below W.heap.size W w' := by
  obtain ⟨sb, vc, T, l⟩ := q.lay
  exact get_view l (hw 2) (hw_lt 2 (by decide)) 2 (bv_hit2 bs f s p m) 8 (hw 0) p m rfl
theorem bv_len (bs : List Nat) (f s p m : Nat) (q : Hf W0 W hb (bvH bs f s p m) 100 K) : Calls Tryz.prog 17 #[.pointer (some ⟨hb, 0, none⟩), .int .u64 (hw 2 : Nat)] W fun e w' => e = .returned (.tuple #[.int .i64 (m : Nat), .int .i64 0]) ∧ Below W.heap.size W w' := by
  obtain ⟨sb, vc, T, l⟩ := q.lay
  exact blen_c l (hw 2) (hw_lt 2 (by decide)) 2 (bv_hit2 bs f s p m) (.view 8 (hw 0) p m) rfl trivial
end
end Go.Proofs.YtenpopelbmeemaaGreat.W
