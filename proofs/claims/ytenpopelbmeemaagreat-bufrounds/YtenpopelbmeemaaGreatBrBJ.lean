import Derived.Test.YtenpopelbmeemaaGreatBase35
import Derived.Test.YtenpopelbmeemaaGreatBase26
import Derived.Test.YtenpopelbmeemaaGreatBase25
import Derived.Test.YtenpopelbmeemaaGreatBase24
/- BufRounds: four buffers, a word of a whole number beside them; each step told over what the buffers hold. -/
namespace Go.Proofs.YtenpopelbmeemaaGreat.W
open Go.ChangeShapes Go.WideShapes Go.RowKit Go.Shelf
set_option linter.unusedVariables false
theorem br_succ {j s : Nat} (h : j ≤ s) (hs : s ≤ 200) : IntKind.i64.wrap ((j : Int) + 1) = (j : Int) + 1 := by rw [IntKind.wrap_i64]; omega
theorem br_meas {j s : Nat} (h : j < s) : s - ((j : Int) + 1).toNat < s - (j : Int).toNat := by omega
theorem br_lt {j s : Nat} (h : j < s) : (j : Int) < s := by omega
theorem br_nlt {j s : Nat} (h : ¬ j < s) : ¬ (j : Int) < s := by omega
section
variable {H : List (Option Hc)} {id : Nat}
theorem set_at {c x : Hc} (h : H[id]? = some (some c)) : (H.set id (some x))[id]? = some (some x) := by
  rw [List.getElem?_set_self (List.getElem?_eq_some_iff.1 h).1]
theorem set_off {j : Nat} {X : Option Hc} (h : id ≠ j) : (H.set id X)[j]? = H[j]? := List.getElem?_set_ne h
theorem isInt_set {k : Int} {bs : List Nat} {x : Hc} {y : Nat} {i : Int} (h : IsInt H y i) (hc : H[id]? = some (some (.buf k bs))) : IsInt (H.set id (some x)) y i := by
  rcases h with h | ⟨j, h1, h2, h3⟩
  · exact .inl h
  · refine .inr ⟨j, h1, h2, ?_⟩
    rw [set_off]
    · exact h3
    · rintro rfl
      rw [hc] at h3
      cases h3
end
/-- the four buffers and the word -/
def Four (H : List (Option Hc)) (a b c d : List Nat) (y : Nat) (i : Int) : Prop := H[0]? = some (some (.buf 5 a)) ∧ H[1]? = some (some (.buf 6 b)) ∧ H[2]? = some (some (.buf 7 c)) ∧ H[3]? = some (some (.buf 8 d)) ∧ IsInt H y i
def S9 (W0 : World) (hb u : Nat) (K : Nat → Prop) (a b c d : List Nat) (y : Nat) (i : Int) (w : World) : Prop := ∃ H, Four H a b c d y i ∧ Hf W0 w hb H u K
section
variable {W0 W W' : World} {hb u y k : Nat} {K : Nat → Prop} {a b c d : List Nat} {i : Int}
theorem S9.below' (s : S9 W0 hb u K a b c d y i W) (hB : Below W.heap.size W W') : S9 W0 hb u K a b c d y i W' := ⟨_, s.choose_spec.1, s.choose_spec.2.below' hB⟩
theorem S9.bel (s : S9 W0 hb u K a b c d y i W) : Below W0.heap.size W0 W := s.choose_spec.2.bel
theorem f_st0 (s : S9 W0 hb u K a b c d y i W) (hl : k * 8 + 8 ≤ a.length) (x : Nat) (hx : x < 18446744073709551616) (hcl : cls ((x : Nat) : Int) = 1) : Calls Tryz.prog 10 #[.pointer (some ⟨hb, 0, none⟩), .int .u64 (hw 0 : Nat), .int .i64 k, .int .u64 (x : Nat)] W fun e w' => e = .returned (.int .i64 0) ∧ S9 W0 hb u K (saved a (0 + k * 8) x 8) b c d y i w' ∧ Upd (Ch W0 K) W w' := by
  obtain ⟨H, ⟨h0, h1, h2, h3, h4⟩, q⟩ := s
  refine (st5 q h0 (by decide) k hl x hx hcl).mono ?_
  rintro e w' ⟨rfl, q', hU⟩
  exact ⟨rfl, ⟨_, ⟨set_at h0, (set_off (by decide)).trans h1, (set_off (by decide)).trans h2, (set_off (by decide)).trans h3, isInt_set h4 h0⟩, q'⟩, hU⟩
theorem f_st1 (P : Nat → Prop) (s : S9 W0 hb u K a b c d y i W) (hl : k * 4 + 4 ≤ b.length) (x : Nat) (hx : x < 18446744073709551616) (hcl : cls ((x : Nat) : Int) = 1) (cn : ∀ w, Calls Tryz.prog 103 #[.int .u64 ((x : Nat) : Int)] w fun e w' => ∃ r : Nat, e = .returned (.int .u32 (r : Nat)) ∧ r < 4294967296 ∧ P r ∧ Below w.heap.size w w') : Calls Tryz.prog 10 #[.pointer (some ⟨hb, 0, none⟩), .int .u64 (hw 1 : Nat), .int .i64 k, .int .u64 (x : Nat)] W fun e w' => e = .returned (.int .i64 0) ∧ ∃ r, (r < 4294967296 ∧ P r) ∧ S9 W0 hb u K a (saved b (0 + k * 4) r 4) c d y i w' ∧ Upd (Ch W0 K) W w' := by
  obtain ⟨H, ⟨h0, h1, h2, h3, h4⟩, q⟩ := s
  refine (st6 P q h1 (by decide) k hl x hx hcl cn).mono ?_
  rintro e w' ⟨rfl, r, hr, q', hU⟩
  exact ⟨rfl, r, hr, ⟨_, ⟨(set_off (by decide)).trans h0, set_at h1, (set_off (by decide)).trans h2, (set_off (by decide)).trans h3, isInt_set h4 h1⟩, q'⟩, hU⟩
theorem f_st2t (s : S9 W0 hb u K a b c d y i W) (hl : k * 2 + 2 ≤ c.length) (x : Nat) (hx : x < 18446744073709551616) (hcl : cls ((x : Nat) : Int) = 1) : Calls Tryz.prog 10 #[.pointer (some ⟨hb, 0, none⟩), .int .u64 (hw 2 : Nat), .int .i64 k, .int .u64 (x : Nat)] W fun e w' => e = .returned (.int .i64 51) ∧ S9 W0 hb u K a b c d y i w' ∧ Upd (Ch W0 K) W w' := by
  obtain ⟨H, ⟨h0, h1, h2, h3, h4⟩, q⟩ := s
  refine (st7_type q h2 (by decide) k hl x hx hcl).mono ?_
  rintro e w' ⟨rfl, q', hU⟩
  exact ⟨rfl, ⟨_, ⟨h0, h1, h2, h3, h4⟩, q'⟩, hU⟩
/-- what a short, a byte is behind a store -/
def shortR (i : Int) : Bool := decide (-32768 ≤ i ∧ i ≤ 32767)
def octR (i : Int) : Bool := decide (0 ≤ i ∧ i ≤ 255)
def outC (b : Bool) : Int := if b = true then 0 else 13
theorem f_st2 (s : S9 W0 hb u K a b c d y i W) (hl : k * 2 + 2 ≤ c.length) : Calls Tryz.prog 10 #[.pointer (some ⟨hb, 0, none⟩), .int .u64 (hw 2 : Nat), .int .i64 k, .int .u64 (y : Nat)] W fun e w' => e = .returned (.int .i64 (outC (shortR i))) ∧ S9 W0 hb u K a b (if shortR i = true then saved c (0 + k * 2) (i % 18446744073709551616).toNat 2 else c) d y i w' ∧ Upd (Ch W0 K) W w' := by
  obtain ⟨H, ⟨h0, h1, h2, h3, h4⟩, q⟩ := s
  by_cases hj : -32768 ≤ i ∧ i ≤ 32767
  · rw [show shortR i = true from decide_eq_true hj]
    refine (st7 q h2 (by decide) k hl y i h4 hj).mono ?_
    rintro e w' ⟨rfl, q', hU⟩
    exact ⟨rfl, ⟨_, ⟨(set_off (by decide)).trans h0, (set_off (by decide)).trans h1, set_at h2, (set_off (by decide)).trans h3, isInt_set h4 h2⟩, q'⟩, hU⟩
  · rw [show shortR i = false from decide_eq_false hj]
    refine (st7_range q h2 (by decide) k hl y i h4 hj).mono ?_
    rintro e w' ⟨rfl, q', hU⟩
    exact ⟨rfl, ⟨_, ⟨h0, h1, h2, h3, h4⟩, q'⟩, hU⟩
theorem f_st3 (s : S9 W0 hb u K a b c d y i W) (hl : k * 1 + 1 ≤ d.length) : Calls Tryz.prog 10 #[.pointer (some ⟨hb, 0, none⟩), .int .u64 (hw 3 : Nat), .int .i64 k, .int .u64 (y : Nat)] W fun e w' => e = .returned (.int .i64 (outC (octR i))) ∧ S9 W0 hb u K a b c (if octR i = true then saved d (0 + k * 1) (i % 18446744073709551616).toNat 1 else d) y i w' ∧ Upd (Ch W0 K) W w' := by
  obtain ⟨H, ⟨h0, h1, h2, h3, h4⟩, q⟩ := s
  by_cases hj : 0 ≤ i ∧ i ≤ 255
  · rw [show octR i = true from decide_eq_true hj]
    refine (st8 q h3 (by decide) k hl y i h4 hj).mono ?_
    rintro e w' ⟨rfl, q', hU⟩
    exact ⟨rfl, ⟨_, ⟨(set_off (by decide)).trans h0, (set_off (by decide)).trans h1, (set_off (by decide)).trans h2, set_at h3, isInt_set h4 h3⟩, q'⟩, hU⟩
  · rw [show octR i = false from decide_eq_false hj]
    refine (st8_range q h3 (by decide) k hl y i h4 hj).mono ?_
    rintro e w' ⟨rfl, q', hU⟩
    exact ⟨rfl, ⟨_, ⟨h0, h1, h2, h3, h4⟩, q'⟩, hU⟩
theorem fltW_twice (n : Int) : fltW (fltW n) = fltW n := by
  unfold fltW
  by_cases h : nanB n = true
  · rw [if_pos h]; decide
  · rw [if_neg h, if_neg h]
set_option maxRecDepth 100000 in
theorem f_ld0 (x : Nat) (hx : x < 18446744073709551616) (hc : fltW ((x : Nat) : Int) = (x : Nat)) (s : S9 W0 hb u K (saved a (0 + k * 8) x 8) b c d y i W) (hl : k * 8 + 8 ≤ a.length) : Calls Tryz.prog 11 #[.pointer (some ⟨hb, 0, none⟩), .int .u64 (hw 0 : Nat), .int .i64 k] W fun e w' => e = .returned (.tuple #[.int .u64 (x : Nat), .int .i64 0]) ∧ Below W.heap.size W w' := by
  obtain ⟨H, ⟨h0, h1, h2, h3, h4⟩, q⟩ := s
  refine ld5 q h0 (by decide) k (by rw [saved_len]; exact hl) _ ?_
  rw [el_at _ _ _ _ hl, Nat.mod_eq_of_lt (by omega)]
  exact hc
set_option maxRecDepth 100000 in
theorem f_ld1 (r x : Nat) (hr : r < 4294967296) (hx : Sf.wideI ((r : Nat) : Int) = (x : Nat)) (s : S9 W0 hb u K a (saved b (0 + k * 4) r 4) c d y i W) (hl : k * 4 + 4 ≤ b.length) : Calls Tryz.prog 11 #[.pointer (some ⟨hb, 0, none⟩), .int .u64 (hw 1 : Nat), .int .i64 k] W fun e w' => e = .returned (.tuple #[.int .u64 (x : Nat), .int .i64 0]) ∧ Below W.heap.size W w' := by
  obtain ⟨H, ⟨h0, h1, h2, h3, h4⟩, q⟩ := s
  refine ld6 q h1 (by decide) k (by rw [saved_len]; exact hl) r ?_ hr _ hx
  rw [el_at _ _ _ _ hl, Nat.mod_eq_of_lt (by omega)]
theorem short_back (i : Int) (h : shortR i = true) : elI 7 ((i % 18446744073709551616).toNat % 256 ^ 2) = intW i := by
  have hj : -32768 ≤ i ∧ i ≤ 32767 := of_decide_eq_true h
  have e : (256 : Nat) ^ 2 = 65536 := by decide
  rw [e]
  have e2 : sg16 ((i % 18446744073709551616).toNat % 65536) = i := by
    unfold sg16
    omega
  unfold elI
  rw [if_pos rfl, e2]
theorem f_ld2 (h : shortR i = true) (hy : ((y : Nat) : Int) = intW i) (s : S9 W0 hb u K a b (saved c (0 + k * 2) (i % 18446744073709551616).toNat 2) d y i W) (hl : k * 2 + 2 ≤ c.length) : Calls Tryz.prog 11 #[.pointer (some ⟨hb, 0, none⟩), .int .u64 (hw 2 : Nat), .int .i64 k] W fun e w' => e = .returned (.tuple #[.int .u64 (y : Nat), .int .i64 0]) ∧ Below W.heap.size W w' := by
  obtain ⟨H, ⟨h0, h1, h2, h3, h4⟩, q⟩ := s
  refine ld7 q h2 (by decide) k (by rw [saved_len]; exact hl) _ ?_
  rw [el_at _ _ _ _ hl, short_back i h, hy]
/-- a byte beside the one that was written is nought -/
theorem f_ld3 (n m v : Nat) (hm : m < n) (hk : k < n) (f : Bool) (s : S9 W0 hb u K a b c (if f = true then saved (List.replicate (n * 1) 0) (0 + k * 1) v 1 else List.replicate (n * 1) 0) y i W) : Calls Tryz.prog 11 #[.pointer (some ⟨hb, 0, none⟩), .int .u64 (hw 3 : Nat), .int .i64 m] W fun e w' => ∃ z : Int, e = .returned (.tuple #[.int .u64 z, .int .i64 0]) ∧ (¬ m = k → z = 18444773748872577024) ∧ Below W.heap.size W w' := by
  obtain ⟨H, ⟨h0, h1, h2, h3, h4⟩, q⟩ := s
  have hl : ∀ f : Bool, (if f = true then saved (List.replicate (n * 1) 0) (0 + k * 1) v 1 else List.replicate (n * 1) 0).length = n * 1 := fun f => by cases f <;> simp [saved_len]
  have e0 : ¬ m = k → leN (seg (if f = true then saved (List.replicate (n * 1) 0) (0 + k * 1) v 1 else List.replicate (n * 1) 0) (0 + m * 1) 1) = 0 := fun ne => by
    cases f
    · exact el_blank (wd := 1) hm
    · show leN (seg (saved (List.replicate (n * 1) 0) (0 + k * 1) v 1) (0 + m * 1) 1) = 0
      rw [el_off _ k m 1 v (by rw [List.length_replicate]; omega) ne]
      exact el_blank (wd := 1) hm
  refine (ld8 q h3 (by decide) m (by rw [hl]; omega) _ rfl).mono ?_
  rintro e w' ⟨rfl, hB⟩
  exact ⟨_, rfl, fun ne => by rw [e0 ne]; decide, hB⟩
end
section
variable {W0 W1 : World} {hb : Nat} {H : List (Option Hc)} {u : Nat} {K : Nat → Prop}
/-- Box of a whole number: of a small one its own word -/
theorem boxY (q : Hf W0 W1 hb H u K) (vr : Value) (rs : List Nat) (hr : WordsAt W1 vr rs) (i : Int) (h0 : -9223372036854775808 ≤ i) (h1 : i ≤ 9223372036854775807) (hf : sumH H + 2 ≤ u) (hH : H.length ≤ 1000000) : Calls Tryz.prog 9 #[.pointer (some ⟨hb, 0, none⟩), .agg #[.int .i64 2, .int .i64 i, .int .u64 0, .string ⟨#[]⟩, .int .u64 0], vr] W1 (BPost W0 W1 hb H u K (fun H' w => IsInt H' w i ∧ (smallB i = true → ((w : Nat) : Int) = intW i)) (nI i)) := by
  by_cases hs : smallB i = true
  · refine (box_int _ vr i (fun w e w' => BPost W0 w hb H u K (fun H' w => IsInt H' w i ∧ (smallB i = true → ((w : Nat) : Int) = intW i)) (nI i) e w') (fun w e w' h => h.two) W1 (fun w hB => ?_)).mono ?_
    · refine (boxInt_small _ vr i h0 h1 hs w).mono ?_
      rintro e w' ⟨rfl, rfl⟩
      have hbd := intW_bd i hs
      exact ⟨(intW i).toNat, H, by rw [Int.toNat_of_nonneg (by omega)], q.below' hB, Ext.refl _, ⟨.inl ⟨hs, Int.toNat_of_nonneg (by omega)⟩, fun _ => Int.toNat_of_nonneg (by omega)⟩, by unfold nI; rw [if_pos hs]; omega, by omega, fun ws h => allR_snoc h _, by omega, Upd.refl _ _⟩
    · rintro e w' ⟨w, hB, h⟩
      exact h.on hB
  · refine (boxI q vr rs hr i h0 h1 hf hH).mono ?_
    rintro e w' ⟨w, H', h⟩
    exact ⟨w, H', h.1, h.2.1, h.2.2.1, ⟨h.2.2.2.1, fun c => absurd c hs⟩, h.2.2.2.2⟩
end
/-- where a row of words of one's own lies -/
theorem mine_form {W0 W : World} {K : Nat → Prop} {v : Value} {ws : List Nat} (o : Mine W0 W K v ws) (h : ws ≠ []) : ∃ g cap cur, v = .slice (some ⟨g, 0, none⟩) ws.length cap ∧ K g ∧ W.heap[g]? = some (.cells cur 22 (0, 0)) ∧ ∀ (i x : Nat), ws[i]? = some x → cur[i]? = some (.int .u64 (x : Nat)) := by
  rcases o.row.2 with ⟨_, h0⟩ | ⟨g, cap, cur, hv, _, hg, _, _, _, ht⟩
  · exact absurd (List.length_eq_zero_iff.1 h0) h
  · refine ⟨g, cap, cur, hv, o.keep g (by rw [hv]; rfl), hg, fun i x hx => ?_⟩
    have hl : i < ws.length := (List.getElem?_eq_some_iff.1 hx).1
    have e : (cur.toList.take (ws.length * 1))[i]? = (wds ws)[i]? := by rw [ht]
    rw [List.getElem?_take_of_lt (by omega)] at e
    rw [← Array.getElem?_toList, e]
    unfold wds
    rw [List.getElem?_map, hx]
    rfl
theorem cell_updB {W0 W W' : World} {K : Nat → Prop} {n : Nat} {o : Obj} (hU : Upd (Ch W0 K) W W') (hk : K n) (h : W.heap[n]? = some o) : W'.heap[n]? = some o := (hU.block n (lt_get h) (fun c => c.1 hk)).trans h
theorem cell_keepB {W W' : World} {n : Nat} {o : Obj} (hB : Below W.heap.size W W') (h : W.heap[n]? = some o) : W'.heap[n]? = some o := (hB.block n (lt_get h)).trans h
theorem four_need (n : Nat) (h : n ≤ 50) : (blankH 5 n).need + (blankH 6 n).need + (blankH 7 n).need + (blankH 8 n).need ≤ 200 := by
  rw [blank_need (.inr (by decide)), blank_need (.inr (by decide)), blank_need (.inr (by decide)), blank_need (.inr (by decide))]
  show 1 + (n * 8 + 7) / 8 + (1 + (n * 4 + 7) / 8) + (1 + (n * 2 + 7) / 8) + (1 + (n * 1 + 7) / 8) ≤ 200
  omega
end Go.Proofs.YtenpopelbmeemaaGreat.W
