import Derived.Test.YtndkfjoaiinjoaaGreatBase32
import Derived.Test.YtndkfjoaiinjoaaGreatBase30
/- The reference's heap: String. -/
namespace Go.Proofs.YtndkfjoaiinjoaaGreat.W
open Go.ChangeShapes Go.WideShapes Go.RowKit Go.Shelf
set_option linter.unusedVariables false
set_option linter.unusedSimpArgs false
section
variable {W : World} {rb room : Nat} {lv : Value} {L : List Rc}
set_option maxRecDepth 100000 in
set_option maxHeartbeats 2000000 in
theorem string7_c (h : Rh W rb lv room L) (hl : L.length < 100000) (hL : ∀ c ∈ L, c.ch ≤ 100000000) (hroom : room ≤ 1000000000000) (vr : Value) (vs : List Tv) (hr : W.ownsRow 0 95 5 vr vs.length (flatT vs)) (hin : ∀ v ∈ vs, v.cell < 0 ∨ ∃ k : Nat, v.cell = k ∧ k < L.length) (hn : vs.length ≤ 3000000) (t : ByteArray) (ht : t.size ≤ 100000) (t0 : Int) :
    Calls Tryz.prog 41 #[.pointer (some ⟨rb, 0, none⟩), .string t, vr] W (SPost W rb lv room L (vs.map Tv.cell) ⟨false, 0, t, t0⟩ (decide (t.size ≤ 5))) := by
  obtain ⟨orr, capr, rfl⟩ := slice_of hr
  obtain ⟨w2, hw2⟩ : ∃ w2, (W.alloc (.cells #[.int .i64 0, .int .i64 0, .int .u64 0, .string ⟨#[]⟩, .int .i64 0] 95)).alloc (.cells #[.int .i64 4, .int .i64 0, .int .u64 0, .string t, .int .i64 (-1)] 95) = w2 := ⟨_, rfl⟩
  obtain ⟨hB, f0, f1, z2⟩ := two_alloc W _ _ _ hw2
  have cp : Calls Tryz.prog 78 #[.pointer (some ⟨rb, 0, none⟩), .agg #[.int .i64 4, .bool false, .int .i64 (t.size : Nat), .slice none 0 0, .slice none 0 0, .int .i64 0, .int .i64 0, .int .i64 0, .bool false], .slice orr vs.length capr] w2 (PPost w2 rb lv room L (vs.map Tv.cell) (.txt t.size)) := put7_c (h.below hB) hl hL hroom _ vs (owns_on hr (fun k e => hB.block k (hr.lt k e).2)) hin hn (.txt t.size) (by show t.size ≤ 100000000; omega) rfl
  have q0 : ¬ (t.size : Int) > 8388608 := by omega
  have hlt := fun k hk => h.lt k hk
  have HH := hid (h.below hB)
  have HL := hid hlt
  have HB := hid hB
  clear h hr hin hL
  by_cases hs : t.size ≤ 5
  · rw [decide_eq_true hs]
    have q1 : (t.size : Int) ≤ 5 := by omega
    have c0 := fun j => cell_of_row w2 _ j _ _ _ f0
    have c1 := fun j => cell_of_row w2 _ j _ _ _ f1
    have zR : ∀ j, w2.frozen? ⟨W.heap.size, j, none⟩ = false := fun j => by simp only [World.frozen?, f0]; simp
    have F0 := hid f0
    clear cp f0 f1
    go_enter Tryz.func41, Tryz.ntmps41
    go_upto_region 5 with fail
    go_wp2
    refine bodyPost_ret (tv_ret2 rfl _ _ W.heap.size _ _ _ _ _ (0, 0) rfl (five_set F0.out _ _ _ _ _)) rfl ?_
    refine ⟨lv, five_upd (Upd.of_below HB.out) (Nat.le_refl _) _ _ _ _ _, fun k e => .inl e, .inl ⟨rfl, rfl, HH.out.on (fun k hk => five_far (by have := HL.out k hk; omega) _ _ _ _ _)⟩⟩
  · rw [decide_eq_false hs]
    have q1 : ¬ (t.size : Int) ≤ 5 := by omega
    go_enter Tryz.func41, Tryz.ntmps41
    go_upto_region 7 with ((go_at_call 78; (with_reducible refine cp.mono ?_); intro e w3 hP; (obtain ⟨x, y, rfl⟩ := hP.two); clear cp))
    obtain ⟨lv', hU, ho, hcase⟩ := hP.split
    clear hP
    have nb : ∀ k, W.heap.size ≤ k → ¬ (k = rb ∨ lv.ownBlock = some k) := fun k hk hc => by have := HL.out k hc; omega
    have nb' : ∀ k, (k = rb ∨ lv'.ownBlock = some k) → k < W.heap.size ∨ W.heap.size + 2 ≤ k := by
      rintro k (e | e)
      · exact .inl (HL.out k (.inl e))
      · rcases ho k e with e | e
        · exact .inl (HL.out k (.inr e))
        · exact .inr (by omega)
    have g0 := (hU.block _ (by omega) (nb _ (Nat.le_refl _))).trans f0
    have g1 := (hU.block _ (by omega) (nb _ (Nat.le_succ _))).trans f1
    have hUW : Upd (fun k => k = rb ∨ lv.ownBlock = some k) W w3 := (Upd.of_below HB.out).trans' hU
    have ho' : ∀ k, lv'.ownBlock = some k → lv.ownBlock = some k ∨ W.heap.size ≤ k := fun k e => (ho k e).imp id (fun h => by omega)
    have HU := hid (And.intro hUW (And.intro ho' nb'))
    clear hU ho hUW ho' nb nb' f0 f1
    rcases hcase with ⟨h1, rfl, rfl, hR⟩ | ⟨h1, rfl, rfl, hR⟩
    · have c1 := fun j => cell_of_row w3 _ j _ _ _ g1
      have c14 := c1 4
      have z1 : ∀ j, w3.frozen? ⟨W.heap.size + 1, j, none⟩ = false := fun j => by simp only [World.frozen?, g1]; simp
      have g1' := heap_set (c := [.int .i64 4, .int .i64 0, .int .u64 0, .string t, .int .i64 (-1)]) g1 4 (.int .i64 (L.length : Nat))
      have g0' : (w3.setCell ⟨W.heap.size + 1, 4, none⟩ (.int .i64 (L.length : Nat))).heap[W.heap.size]? = some (.cells #[.int .i64 0, .int .i64 0, .int .u64 0, .string ⟨#[]⟩, .int .i64 0] 95 (0, 0)) := (Below.heap_setCell _ _ _ _ (by show W.heap.size ≠ W.heap.size + 1; omega)).trans g0
      have hR' : Rh (w3.setCell ⟨W.heap.size + 1, 4, none⟩ (.int .i64 (L.length : Nat))) rb lv' room (keepK L (vs.map Tv.cell) L.length ++ [.txt t.size]) := hR.on (fun k hk => Below.heap_setCell _ _ _ _ (by show k ≠ W.heap.size + 1; have := HU.out.2.2 k hk; omega))
      have hU' := HU.out.1.setNew (gb := W.heap.size + 1) (by omega) 4 (.int .i64 (L.length : Nat))
      have HG := hid (And.intro g1' (And.intro g0' (And.intro hR' hU')))
      clear g1 g0 g1' g0' hR' hU' hR
      go_upto_region 10 with fail
      generalize w3.setCell ⟨W.heap.size + 1, 4, none⟩ (.int .i64 (L.length : Nat)) = w4 at *
      obtain ⟨g1', g0', -, -⟩ := HG.out
      clear c1 c14 z1
      have c0 := fun j => cell_of_row w4 _ j _ _ _ g0'
      have c1 := fun j => cell_of_row w4 _ j _ _ _ g1'
      have zR : ∀ j, w4.frozen? ⟨W.heap.size, j, none⟩ = false := fun j => by simp only [World.frozen?, g0']; simp
      clear g0' g1'
      go_wp2
      refine bodyPost_ret (tv_ret2 rfl _ _ W.heap.size _ _ _ _ _ (0, 0) rfl (five_set HG.out.2.1 _ _ _ _ _)) rfl ?_
      refine ⟨lv', five_upd HG.out.2.2.2 (Nat.le_refl _) _ _ _ _ _, HU.out.2.1, .inr (.inl ⟨rfl, h1, rfl, HG.out.2.2.1.on (fun k hk => five_far (by have := HU.out.2.2 k hk; omega) _ _ _ _ _)⟩)⟩
    · have c0 := fun j => cell_of_row w3 _ j _ _ _ g0
      have zR : ∀ j, w3.frozen? ⟨W.heap.size, j, none⟩ = false := fun j => by simp only [World.frozen?, g0]; simp
      have HG := hid (And.intro g0 hR)
      clear g0 g1 hR
      go_wp2
      refine bodyPost_ret (tv_ret2 rfl _ _ W.heap.size _ _ _ _ _ (0, 0) rfl (five_set HG.out.1 _ _ _ _ _)) rfl ?_
      refine ⟨lv', five_upd HU.out.1 (Nat.le_refl _) _ _ _ _ _, HU.out.2.1, .inr (.inr ⟨rfl, h1, rfl, HG.out.2.on (fun k hk => five_far (by have := HU.out.2.2 k hk; omega) _ _ _ _ _)⟩)⟩
end
end Go.Proofs.YtndkfjoaiinjoaaGreat.W
/- Values that are boxed, or refused memory; package text on words of strings and of whole numbers. -/
namespace Go.Proofs.YtndkfjoaiinjoaaGreat.W
open Go.ChangeShapes Go.WideShapes Go.RowKit Go.Shelf
set_option linter.unusedVariables false
/-- behind a value that was boxed, or refused: sm: it needs no cell, w0 its word then; c: its cell; rs: the roots -/
def GPost (W0 W1 : World) (hb : Nat) (H : List (Option Hc)) (u : Nat) (K : Nat → Prop) (c : Hc) (sm : Bool) (w0 : Nat) (rs : List Nat) (e : Ending) (w' : World) : Prop :=
  Upd (Ch W0 K) W1 w' ∧ ((sm = true ∧ e = .returned (.tuple #[.int .u64 (w0 : Nat), .int .i64 0]) ∧ Hf W0 w' hb H u K) ∨
    (sm = false ∧ sumH (roomH H u c rs) + c.need ≤ u ∧ e = .returned (.tuple #[.int .u64 (hw (lid (roomH H u c rs)) : Nat), .int .i64 0]) ∧ Hf W0 w' hb (putH (roomH H u c rs) (lid (roomH H u c rs)) (some c)) u K) ∨
    (sm = false ∧ u < sumH (roomH H u c rs) + c.need ∧ e = .returned (.tuple #[.int .u64 0, .int .i64 40]) ∧ Hf W0 w' hb (roomH H u c rs) u K))
section
variable {W0 W W1 W' : World} {hb : Nat} {H : List (Option Hc)} {u : Nat} {K : Nat → Prop}
theorem GPost.two {c : Hc} {sm : Bool} {w0 : Nat} {rs : List Nat} {e : Ending} (h : GPost W0 W1 hb H u K c sm w0 rs e W') : ∃ x y, e = .returned (.tuple #[.int .u64 x, .int .i64 y]) := by
  obtain ⟨_, ⟨_, rfl, _⟩ | ⟨_, _, rfl, _⟩ | ⟨_, _, rfl, _⟩⟩ := h <;> exact ⟨_, _, rfl⟩
theorem GPost.on {W2 : World} {c : Hc} {sm : Bool} {w0 : Nat} {rs : List Nat} {e : Ending} (hB : Below W1.heap.size W1 W2) (h : GPost W0 W2 hb H u K c sm w0 rs e W') : GPost W0 W1 hb H u K c sm w0 rs e W' :=
  ⟨(Upd.of_below hB).trans' h.1, h.2⟩
/-- Put's answer, as a value's -/
theorem gpost_put (q : Hf W0 W1 hb H u K) {c : Hc} {rs : List Nat} {e : Ending} {w' : World} (w0 : Nat) {S : Nat → Prop} (h3 : ∀ k, S k → W0.heap.size ≤ k ∧ k < W1.heap.size) (h4 : ∀ k, K k → k < W1.heap.size ∧ ¬ S k) (hP : PutPost W1 S hb (roomH H u c rs) u c e w') : GPost W0 W1 hb H u K c false w0 rs e w' := by
  obtain ⟨hU, ⟨h1, rfl, g⟩ | ⟨h1, rfl, g⟩⟩ := hP
  · obtain ⟨a, b⟩ := Hf.put q.1 h3 h4 hU g
    exact ⟨b, .inr (.inl ⟨rfl, h1, rfl, a⟩)⟩
  · obtain ⟨a, b⟩ := Hf.put q.1 h3 h4 hU g
    exact ⟨b, .inr (.inr ⟨rfl, h1, rfl, a⟩)⟩
theorem g_text (q : Hf W0 W1 hb H u K) (w0 : Nat) (t : ByteArray) (hl : t.size ≤ 8388608) (vr : Value) (rs : List Nat) (hr : WordsAt W1 vr rs) :
    Calls Tryz.prog 13 #[.pointer (some ⟨hb, 0, none⟩), .agg #[.int .i64 4, .bool false, .int .i64 0, .string t, .slice none 0 0, .slice none 0 0, .int .u64 0, .int .i64 0, .int .i64 0], vr] W1 (GPost W0 W1 hb H u K (.text (strB t)) false w0 rs) := by
  obtain ⟨h1, S, h2, h3, h4⟩ := id q
  exact (put_text h2 (fun k e => (h3 k e).2) t hl none none 0 0 vr rs hr).mono (fun e w' hP => gpost_put q w0 h3 h4 hP)
theorem g_num (q : Hf W0 W1 hb H u K) (w0 : Nat) (i : Int) (h0 : -9223372036854775808 ≤ i) (h1 : i < 9223372036854775808) (vr : Value) (rs : List Nat) (hr : WordsAt W1 vr rs) :
    Calls Tryz.prog 13 #[.pointer (some ⟨hb, 0, none⟩), .agg #[.int .i64 2, .bool false, .int .i64 i, .string ⟨#[]⟩, .slice none 0 0, .slice none 0 0, .int .u64 0, .int .i64 0, .int .i64 0], vr] W1 (GPost W0 W1 hb H u K (.num i) false w0 rs) := by
  obtain ⟨g1, S, h2, h3, h4⟩ := id q
  exact (put_num h2 (fun k e => (h3 k e).2) i h0 h1 none none 0 0 vr rs hr).mono (fun e w' hP => gpost_put q w0 h3 h4 hP)
theorem gboxInt (q : Hf W0 W1 hb H u K) (vr : Value) (rs : List Nat) (hr : WordsAt W1 vr rs) (i : Int) (h0 : -9223372036854775808 ≤ i) (h1 : i ≤ 9223372036854775807) : Calls Tryz.prog 36 #[.pointer (some ⟨hb, 0, none⟩), .int .i64 i, vr] W1 (GPost W0 W1 hb H u K (.num i) (smallB i) (intW i).toNat rs) := by
  cases hs : smallB i with
  | true =>
    refine (boxInt_small _ vr i h0 h1 hs W1).mono ?_
    rintro e w' ⟨rfl, rfl⟩
    have hbd := intW_bd i hs
    exact ⟨Upd.refl _ _, .inl ⟨rfl, by rw [Int.toNat_of_nonneg (by omega)], q⟩⟩
  | false =>
    have cf := fromInt_c i h0 h1 W1
    rw [hs] at cf
    have cp := g_num q (intW i).toNat i h0 (by omega) vr rs hr
    clear q hr hs
    go_enter Tryz.func36, Tryz.ntmps36
    go_wp2_with (first | (go_at_call 74; (with_reducible refine cf.mono ?_); rintro e w' ⟨rfl, hw⟩; (have hw' := hw.symm); subst hw'; clear hw) | (go_at_call 13; (with_reducible refine cp.mono ?_); intro e w2 hP; (obtain ⟨x, y, rfl⟩ := hP.two); clear cp))
    go_ret2
    exact hP
theorem gboxI (q : Hf W0 W1 hb H u K) (vr : Value) (rs : List Nat) (hr : WordsAt W1 vr rs) (i : Int) (h0 : -9223372036854775808 ≤ i) (h1 : i ≤ 9223372036854775807) : Calls Tryz.prog 16 #[.pointer (some ⟨hb, 0, none⟩), .agg #[.int .i64 2, .int .i64 i, .int .u64 0, .string ⟨#[]⟩, .int .u64 0], vr] W1 (GPost W0 W1 hb H u K (.num i) (smallB i) (intW i).toNat rs) := by
  refine (box_int _ vr i (fun w e w' => GPost W0 w hb H u K (.num i) (smallB i) (intW i).toNat rs e w') (fun w e w' h => h.two) W1 (fun w hB => gboxInt (q.below' hB) vr rs (words_below hr hB) i h0 h1)).mono ?_
  rintro e w' ⟨w, hB, h⟩
  exact h.on hB
theorem gboxText (q : Hf W0 W1 hb H u K) (vr : Value) (rs : List Nat) (hr : WordsAt W1 vr rs) (t : ByteArray) (hl : t.size ≤ 8388608) : Calls Tryz.prog 38 #[.pointer (some ⟨hb, 0, none⟩), .string t, vr] W1 (GPost W0 W1 hb H u K (.text (strB t)) (decide (t.size ≤ 5)) (txtW t).toNat rs) := by
  by_cases hs : t.size ≤ 5
  · rw [decide_eq_true hs]
    refine (boxText_small _ vr t hs W1).mono ?_
    rintro e w' ⟨rfl, rfl⟩
    have hb5 := cls_is5 _ (txtW_cls t hs)
    exact ⟨Upd.refl _ _, .inl ⟨rfl, by rw [Int.toNat_of_nonneg (by omega)], q⟩⟩
  · have cf := fromText_c t (by simp [maxLen]; omega) W1
    rw [decide_eq_false hs] at cf ⊢
    have h1 : ¬ (t.size : Int) > 8388608 := by omega
    have cp := g_text q (txtW t).toNat t hl vr rs hr
    clear q hr hs
    go_enter Tryz.func38, Tryz.ntmps38
    go_wp2_with (first | (go_at_call 76; (with_reducible refine cf.mono ?_); rintro e w' ⟨rfl, hw⟩; (have hw' := hw.symm); subst hw'; clear hw) | (go_at_call 13; (with_reducible refine cp.mono ?_); intro e w2 hP; (obtain ⟨x, y, rfl⟩ := hP.two); clear cp))
    go_ret2
    exact hP
theorem gboxS (q : Hf W0 W1 hb H u K) (vr : Value) (rs : List Nat) (hr : WordsAt W1 vr rs) (t : ByteArray) (hl : t.size ≤ 8388608) : Calls Tryz.prog 16 #[.pointer (some ⟨hb, 0, none⟩), .agg #[.int .i64 4, .int .i64 0, .int .u64 0, .string t, .int .u64 0], vr] W1 (GPost W0 W1 hb H u K (.text (strB t)) (decide (t.size ≤ 5)) (txtW t).toNat rs) := by
  refine (box_text _ vr t (fun w e w' => GPost W0 w hb H u K (.text (strB t)) (decide (t.size ≤ 5)) (txtW t).toNat rs e w') (fun w e w' h => h.two) W1 (fun w hB => gboxText (q.below' hB) vr rs (words_below hr hB) t hl)).mono ?_
  rintro e w' ⟨w, hB, h⟩
  exact h.on hB
set_option maxRecDepth 100000 in
theorem gtbox (q : Hf W0 W1 hb H u K) (vr vo : Value) (rs ro : List Nat) (hr : WordsAt W1 vr rs) (ho : WordsAt W1 vo ro) (hro : 0 < ro.length) (hll : rs.length + ro.length ≤ 2000000) (t : ByteArray) (hl : t.size ≤ 8388608) : Calls Tryz.prog 23 #[.pointer (some ⟨hb, 0, none⟩), .string t, vr, vo] W1 (GPost W0 W1 hb H u K (.text (strB t)) (decide (t.size ≤ 5)) (txtW t).toNat (rs ++ ro)) := by
  have hr' := hr
  have ho' := ho
  obtain ⟨o1, cap1, hvr, -⟩ := hr'
  obtain ⟨o2, cap2, hvo, -⟩ := ho'
  subst hvr
  subst hvo
  generalize hn1 : rs.length = n1 at *
  generalize hn2 : ro.length = n2 at *
  have N1 := hid hn1
  have N2 := hid hn2
  clear hn1 hn2
  have hB1 : Below W1.heap.size W1 (W1.alloc (.cells #[.slice o1 n1 cap1, .slice o2 n2 cap2] 29)) := (Below.refl _ W1).alloc (Nat.le_refl _) _
  have e0 := World.cell?_alloc_new W1 #[.slice o1 n1 cap1, .slice o2 n2 cap2] 29
  have cs := sconcat_c (W1.alloc (.cells #[.slice o1 n1 cap1, .slice o2 n2 cap2] 29)) W1.heap.size 2 (.slice o1 n1 cap1) (.slice o2 n2 cap2) rs ro (e0 0) (e0 1) (words_below hr hB1) (words_below ho hB1) (by rw [N1.out, N2.out]; exact hll) (by rw [N2.out]; exact hro)
  have cx : ∀ (w2 : World) (v : Value), Below (W1.alloc (.cells #[.slice o1 n1 cap1, .slice o2 n2 cap2] 29)).heap.size (W1.alloc (.cells #[.slice o1 n1 cap1, .slice o2 n2 cap2] 29)) w2 → WordsAt w2 v (rs ++ ro) → Calls Tryz.prog 16 #[.pointer (some ⟨hb, 0, none⟩), .agg #[.int .i64 4, .int .i64 0, .int .u64 0, .string t, .int .u64 0], v] w2 (GPost W0 W1 hb H u K (.text (strB t)) (decide (t.size ≤ 5)) (txtW t).toNat (rs ++ ro)) := by
    intro w2 v hB2 hw2
    have hB := hB1.trans (hB2.mono hB1.size)
    exact (gboxS (q.below' hB) v _ hw2 t hl).mono (fun e w' h => h.on hB)
  clear e0 hB1 q hr ho hro hll hl
  go_enter Tryz.func23, Tryz.ntmps23
  go_wp2_with (first | (go_at_call 49; (with_reducible refine cs.mono ?_); rintro e w2 ⟨v, rfl, hB2, hw2⟩; clear cs) | (go_at_call 16; (with_reducible refine (cx _ _ hB2 hw2).mono ?_); intro e w3 h3; (obtain ⟨x, y, rfl⟩ := h3.two); clear cx))
  go_ret2
  exact h3
end
/-- a word of a value -/
def IsV (H : List (Option Hc)) (w : Nat) (wh : Bool) (i : Int) (t : ByteArray) : Prop := (wh = true ∧ IsInt H w i ∧ t = ⟨#[]⟩) ∨ (wh = false ∧ IsTxt H w t)
/-- what it is told to be wrong with -/
def erW (wh : Bool) : Int := if wh = true then 51 else 0
theorem words_two {w2 : World} {a b : Nat} (ha : a < 18446744073709551616) (hb : b < 18446744073709551616) : WordsAt (w2.alloc (.cells #[.int .u64 a, .int .u64 b] 26)) (.slice (some ⟨w2.heap.size, 0, none⟩) 2 2) [a, b] := by
  have e0 := World.cell?_alloc_new w2 #[.int .u64 a, .int .u64 b] 26
  refine ⟨_, _, rfl, by simp, ?_, ?_⟩
  · intro z hz
    simp at hz
    rcases hz with rfl | rfl
    · exact ha
    · exact hb
  · intro i hi
    refine ⟨_, rfl, ?_⟩
    have e1 : ((⟨w2.heap.size, 0, none⟩ : Addr).add i) = ⟨w2.heap.size, i, none⟩ := by unfold Addr.add; split <;> simp_all
    rw [e1, e0 i]
    have : i = 0 ∨ i = 1 := by simp at hi; omega
    rcases this with rfl | rfl <;> rfl
theorem words_one {w2 : World} {a : Nat} (ha : a < 18446744073709551616) : WordsAt (w2.alloc (.cells #[.int .u64 a] 26)) (.slice (some ⟨w2.heap.size, 0, none⟩) 1 1) [a] := by
  have e0 := World.cell?_alloc_new w2 #[.int .u64 a] 26
  refine ⟨_, _, rfl, by simp, ?_, ?_⟩
  · intro z hz
    simp at hz
    rw [hz]; exact ha
  · intro i hi
    refine ⟨_, rfl, ?_⟩
    have e1 : ((⟨w2.heap.size, 0, none⟩ : Addr).add i) = ⟨w2.heap.size, i, none⟩ := by unfold Addr.add; split <;> simp_all
    rw [e1, e0 i]
    have : i = 0 := by simp at hi; omega
    subst this; rfl
section
variable {W1 : World} {S : Nat → Prop} {hb : Nat} {H : List (Option Hc)} {u : Nat}
set_option maxRecDepth 100000 in
theorem of_int (q : HSt W1 S hb H u) (w : Nat) (i : Int) (h : IsInt H w i) :
    Calls Tryz.prog 11 #[.pointer (some ⟨hb, 0, none⟩), .int .u64 w] W1 fun e w' => e = .returned (.tuple #[.string ⟨#[]⟩, .int .i64 51]) ∧ Below W1.heap.size W1 w' := by
  have cu := unbox_int q w i h
  clear q h
  go_enter Tryz.func11, Tryz.ntmps11
  go_wp2_with (go_at_call 25; (with_reducible refine cu.mono ?_); rintro e w4 ⟨rfl, hB4⟩; clear cu)
  go_ret2
  exact ⟨rfl, hB4.alloc hB4.size _⟩
theorem of_g (q : HSt W1 S hb H u) (w : Nat) (wh : Bool) (i : Int) (t : ByteArray) (h : IsV H w wh i t) :
    Calls Tryz.prog 11 #[.pointer (some ⟨hb, 0, none⟩), .int .u64 w] W1 fun e w' => e = .returned (.tuple #[.string t, .int .i64 (erW wh)]) ∧ Below W1.heap.size W1 w' := by
  rcases h with ⟨rfl, h, rfl⟩ | ⟨rfl, h⟩
  · exact of_int q w i h
  · exact of_c q w t h
theorem len_g (q : HSt W1 S hb H u) (w : Nat) (wh : Bool) (i : Int) (t : ByteArray) (h : IsV H w wh i t) :
    Calls Tryz.prog 14 #[.pointer (some ⟨hb, 0, none⟩), .int .u64 w] W1 fun e w' => e = .returned (.tuple #[.int .i64 (t.size : Nat), .int .i64 (erW wh)]) ∧ Below W1.heap.size W1 w' := by
  have cu := of_g q w wh i t h
  generalize erW wh = E at *
  clear q h
  go_enter Tryz.func14, Tryz.ntmps14
  go_wp2_with (go_at_call 11; (with_reducible refine cu.mono ?_); rintro e w4 ⟨rfl, hB4⟩; clear cu)
  go_ret2
  exact ⟨rfl, hB4⟩
theorem byte_int (q : HSt W1 S hb H u) (w : Nat) (i k : Int) (h : IsInt H w i) :
    Calls Tryz.prog 15 #[.pointer (some ⟨hb, 0, none⟩), .int .u64 w, .int .i64 k] W1 fun e w' => e = .returned (.tuple #[.int .u8 0, .int .i64 51]) ∧ Below W1.heap.size W1 w' := by
  have cu := of_int q w i h
  clear q h
  go_enter Tryz.func15, Tryz.ntmps15
  go_wp2_with (go_at_call 11; (with_reducible refine cu.mono ?_); rintro e w4 ⟨rfl, hB4⟩; clear cu)
  go_ret2
  exact ⟨rfl, hB4⟩
set_option maxRecDepth 100000 in
theorem both_no (q : HSt W1 S hb H u) (a b : Nat) (p r : Bool) (i j : Int) (x y : ByteArray) (hx : IsV H a p i x) (hy : IsV H b r j y) (hn : p = true ∨ r = true) :
    Calls Tryz.prog 22 #[.pointer (some ⟨hb, 0, none⟩), .int .u64 a, .int .u64 b] W1 fun e w' => e = .returned (.tuple #[.string ⟨#[]⟩, .string ⟨#[]⟩, .int .i64 51]) ∧ Below W1.heap.size W1 w' := by
  have ca := of_g q a p i x hx
  cases p with
  | true =>
    rw [show erW true = 51 from rfl] at ca
    clear q hx hy hn
    go_enter Tryz.func22, Tryz.ntmps22
    go_wp2_with (go_at_call 11; (with_reducible refine ca.mono ?_); rintro e w4 ⟨rfl, hB4⟩; clear ca)
    refine bodyPost_ret (results_tmp3 rfl _ _ _) rfl ?_
    exact ⟨rfl, hB4⟩
  | false =>
    have hr : r = true := by rcases hn with h | h
                             · cases h
                             · exact h
    subst hr
    rw [show erW false = 0 from rfl] at ca
    have cb := fun w4 (hB4 : Below W1.heap.size W1 w4) => of_g (q.below hB4) b true j y hy
    rw [show erW true = 51 from rfl] at cb
    clear q hx hy hn
    go_enter Tryz.func22, Tryz.ntmps22
    go_wp2_with (go_at_call 11; first | ((with_reducible refine ca.mono ?_); rintro e w4 ⟨rfl, hB4⟩; clear ca) | ((with_reducible refine (cb _ hB4).mono ?_); rintro e w5 ⟨rfl, hB5⟩; clear cb))
    refine bodyPost_ret (results_tmp3 rfl _ _ _) rfl ?_
    exact ⟨rfl, hB4.trans (hB5.mono hB4.size)⟩
theorem compare_no (q : HSt W1 S hb H u) (a b : Nat) (p r : Bool) (i j : Int) (x y : ByteArray) (hx : IsV H a p i x) (hy : IsV H b r j y) (hn : p = true ∨ r = true) :
    Calls Tryz.prog 10 #[.pointer (some ⟨hb, 0, none⟩), .int .u64 a, .int .u64 b] W1 fun e w' => e = .returned (.tuple #[.int .i64 0, .int .i64 51]) ∧ Below W1.heap.size W1 w' := by
  have ca := both_no q a b p r i j x y hx hy hn
  clear q hx hy hn
  go_enter Tryz.func10, Tryz.ntmps10
  go_wp2_with (go_at_call 22; (with_reducible refine ca.mono ?_); rintro e w4 ⟨rfl, hB4⟩; clear ca)
  go_ret2
  exact ⟨rfl, hB4⟩
theorem concat_no (q : HSt W1 S hb H u) (a b : Nat) (p r : Bool) (i j : Int) (x y : ByteArray) (hx : IsV H a p i x) (hy : IsV H b r j y) (hn : p = true ∨ r = true) (vr : Value) :
    Calls Tryz.prog 9 #[.pointer (some ⟨hb, 0, none⟩), .int .u64 a, .int .u64 b, vr] W1 fun e w' => e = .returned (.tuple #[.int .u64 0, .int .i64 51]) ∧ Below W1.heap.size W1 w' := by
  have ca := both_no q a b p r i j x y hx hy hn
  clear q hx hy hn
  go_enter Tryz.func9, Tryz.ntmps9
  go_wp2_with (go_at_call 22; (with_reducible refine ca.mono ?_); rintro e w4 ⟨rfl, hB4⟩; clear ca)
  go_ret2
  exact ⟨rfl, hB4⟩
theorem sub_int (q : HSt W1 S hb H u) (a : Nat) (i k l : Int) (h : IsInt H a i) (vr : Value) :
    Calls Tryz.prog 17 #[.pointer (some ⟨hb, 0, none⟩), .int .u64 a, .int .i64 k, .int .i64 l, vr] W1 fun e w' => e = .returned (.tuple #[.int .u64 0, .int .i64 51]) ∧ Below W1.heap.size W1 w' := by
  have ca := of_int q a i h
  clear q h
  go_enter Tryz.func17, Tryz.ntmps17
  go_wp2_with (go_at_call 11; (with_reducible refine ca.mono ?_); rintro e w4 ⟨rfl, hB4⟩; clear ca)
  go_ret2
  exact ⟨rfl, hB4⟩
set_option maxRecDepth 100000 in
theorem sub_out (q : HSt W1 S hb H u) (a : Nat) (x : ByteArray) (h : IsTxt H a x) (k l : Int) (hx : x.size ≤ 8388608) (hn : k < 0 ∨ k > l ∨ l > x.size) (vr : Value) :
    Calls Tryz.prog 17 #[.pointer (some ⟨hb, 0, none⟩), .int .u64 a, .int .i64 k, .int .i64 l, vr] W1 fun e w' => e = .returned (.tuple #[.int .u64 0, .int .i64 31]) ∧ Below W1.heap.size W1 w' := by
  have ca := of_c q a x h
  have c6 : IntKind.i64.wrap (x.size : Int) = x.size := by rw [IntKind.wrap_i64]; omega
  clear q h hx
  by_cases c1 : k < 0
  · clear hn
    go_enter Tryz.func17, Tryz.ntmps17
    go_wp2_with (go_at_call 11; (with_reducible refine ca.mono ?_); rintro e w4 ⟨rfl, hB4⟩; clear ca)
    go_ret2
    exact ⟨rfl, hB4⟩
  · by_cases c2 : k > l
    · clear hn
      go_enter Tryz.func17, Tryz.ntmps17
      go_wp2_with (go_at_call 11; (with_reducible refine ca.mono ?_); rintro e w4 ⟨rfl, hB4⟩; clear ca)
      go_ret2
      exact ⟨rfl, hB4⟩
    · have c3 : l > x.size := by omega
      clear hn
      go_enter Tryz.func17, Tryz.ntmps17
      go_wp2_with (go_at_call 11; (with_reducible refine ca.mono ?_); rintro e w4 ⟨rfl, hB4⟩; clear ca)
      go_ret2
      exact ⟨rfl, hB4⟩
end
section
variable {W0 W W1 W' : World} {hb : Nat} {H : List (Option Hc)} {u : Nat} {K : Nat → Prop}
set_option maxRecDepth 100000 in
theorem concat_g (q : Hf W0 W1 hb H u K) (vr : Value) (rs : List Nat) (hr : WordsAt W1 vr rs) (hll : rs.length ≤ 1999998) (a b : Nat) (x y : ByteArray) (hx : IsTxt H a x) (hy : IsTxt H b y) (hl : (x ++ y).size ≤ 8388608) : Calls Tryz.prog 9 #[.pointer (some ⟨hb, 0, none⟩), .int .u64 a, .int .u64 b, vr] W1 (GPost W0 W1 hb H u K (.text (strB (x ++ y))) (decide ((x ++ y).size ≤ 5)) (txtW (x ++ y)).toNat (rs ++ [a, b])) := by
  obtain ⟨o1, cap1, hvr, -⟩ := id hr
  subst hvr
  have ca := both_c q.2.choose_spec.1 a b x y hx hy
  have cx : ∀ (w2 : World), Below W1.heap.size W1 w2 → Calls Tryz.prog 23 #[.pointer (some ⟨hb, 0, none⟩), .string (x ++ y), .slice o1 rs.length cap1, .slice (some ⟨w2.heap.size, 0, none⟩) 2 2] (w2.alloc (.cells #[.int .u64 a, .int .u64 b] 26)) (GPost W0 W1 hb H u K (.text (strB (x ++ y))) (decide ((x ++ y).size ≤ 5)) (txtW (x ++ y)).toNat (rs ++ [a, b])) := by
    intro w2 hB2
    have hB3 : Below w2.heap.size w2 (w2.alloc (.cells #[.int .u64 a, .int .u64 b] 26)) := (Below.refl _ w2).alloc (Nat.le_refl _) _
    have hB := hB2.trans (hB3.mono hB2.size)
    exact (gtbox (q.below' hB) _ _ rs [a, b] (words_below hr hB) (words_two hx.lt hy.lt) (by simp) (by simp; omega) (x ++ y) hl).mono (fun e w' h => h.on hB)
  have hm : ¬ 9223372036854775807 < x.size + y.size := by rw [← ByteArray.size_append]; omega
  clear q hr hll hx hy hl
  go_enter Tryz.func9, Tryz.ntmps9
  go_wp2_with (first | (go_at_call 22; (with_reducible refine ca.mono ?_); rintro e w2 ⟨rfl, hB2⟩; clear ca) | (go_at_call 23; (with_reducible refine (cx _ hB2).mono ?_); intro e w3 h3; (obtain ⟨x1, y1, rfl⟩ := h3.two); clear cx))
  go_ret2
  exact h3
set_option maxRecDepth 100000 in
theorem sub_g (q : Hf W0 W1 hb H u K) (vr : Value) (rs : List Nat) (hr : WordsAt W1 vr rs) (hll : rs.length ≤ 1999998) (a : Nat) (x : ByteArray) (hx : IsTxt H a x) (i j : Nat) (hij : i ≤ j) (hj : j ≤ x.size) (hl : x.size ≤ 8388608) (hl2 : (x.extract i j).size ≤ 8388608) : Calls Tryz.prog 17 #[.pointer (some ⟨hb, 0, none⟩), .int .u64 a, .int .i64 i, .int .i64 j, vr] W1 (GPost W0 W1 hb H u K (.text (strB (x.extract i j))) (decide ((x.extract i j).size ≤ 5)) (txtW (x.extract i j)).toNat (rs ++ [a])) := by
  obtain ⟨o1, cap1, hvr, -⟩ := id hr
  subst hvr
  have ca := of_c q.2.choose_spec.1 a x hx
  have cx : ∀ (w2 : World), Below W1.heap.size W1 w2 → Calls Tryz.prog 23 #[.pointer (some ⟨hb, 0, none⟩), .string (x.extract i j), .slice o1 rs.length cap1, .slice (some ⟨w2.heap.size, 0, none⟩) 1 1] (w2.alloc (.cells #[.int .u64 a] 26)) (GPost W0 W1 hb H u K (.text (strB (x.extract i j))) (decide ((x.extract i j).size ≤ 5)) (txtW (x.extract i j)).toNat (rs ++ [a])) := by
    intro w2 hB2
    have hB3 : Below w2.heap.size w2 (w2.alloc (.cells #[.int .u64 a] 26)) := (Below.refl _ w2).alloc (Nat.le_refl _) _
    have hB := hB2.trans (hB3.mono hB2.size)
    exact (gtbox (q.below' hB) _ _ rs [a] (words_below hr hB) (words_one hx.lt) (by simp) (by simp; omega) (x.extract i j) hl2).mono (fun e w' h => h.on hB)
  have c0 : ¬ (i : Int) < 0 := by omega
  have c1 : ¬ (i : Int) > j := by omega
  have c2 : ¬ (j : Int) > x.size := by omega
  have c3 : (0 : Int) ≤ i := by omega
  have c4 : (i : Int) ≤ j := by omega
  have c5 : (j : Int) ≤ x.size := by omega
  have c6 : IntKind.i64.wrap (x.size : Int) = x.size := by rw [IntKind.wrap_i64]; omega
  clear q hr hll hx hij hj hl hl2
  go_enter Tryz.func17, Tryz.ntmps17
  go_wp2_with (first | (go_at_call 11; (with_reducible refine ca.mono ?_); rintro e w2 ⟨rfl, hB2⟩; clear ca) | (go_at_call 23; (with_reducible refine (cx _ hB2).mono ?_); intro e w3 h3; (obtain ⟨x1, y1, rfl⟩ := h3.two); clear cx))
  go_ret2
  exact h3
end
end Go.Proofs.YtndkfjoaiinjoaaGreat.W
/- The reference's text (casketref8): Strings, Len, Byte, Compare. -/
namespace Go.Proofs.YtndkfjoaiinjoaaGreat.W
open Go.ChangeShapes Go.WideShapes Go.RowKit Go.Shelf
set_option linter.unusedVariables false
set_option linter.unusedSimpArgs false
/-- a value's kind -/
def kdW (wh : Bool) : Int := if wh = true then 2 else 4
theorem strings8_c (wh : List Bool) (W : World) (g cap : Nat) (hc : ∀ (j : Nat) (b : Bool), wh[j]? = some b → W.cell? ⟨g, j * 5, none⟩ = some (.int .i64 (kdW b))) (hn : wh.length ≤ 1000) :
    Calls Tryz.prog 80 #[.slice (some ⟨g, 0, none⟩) wh.length cap] W fun e w' => e = .returned (.int .i64 (erW (wh.any id))) ∧ w' = W := by
  obtain ⟨n, hN⟩ : ∃ n, wh.length = n := ⟨_, rfl⟩
  rw [hN] at hn
  rw [hN]
  have HC := hid hc
  have HN := hid hN
  clear hc hN
  go_enter Tryz.func80, Tryz.ntmps80
  go_wp2
  go_loop [3] (fun ii => ∃ k : Nat, k ≤ n ∧ (wh.take k).any id = false ∧ ii = .int .i64 k) (fun ii => n - (intOf ii).toNat)
  case atStart => exact ⟨0, Nat.zero_le _, rfl, rfl⟩
  case round =>
    obtain ⟨k, hk, hf, rfl⟩ := hrel
    by_cases hkn : k < n
    · obtain ⟨b, hb⟩ : ∃ b, wh[k]? = some b := ⟨_, List.getElem?_eq_getElem (by rw [HN.out]; exact hkn)⟩
      have c0 := HC.out k b hb
      have k0 : (0 : Int) ≤ k := Int.natCast_nonneg _
      have k1 : (k : Int) < n := by omega
      have w1 : IntKind.i64.wrap ((k : Int) + 1) = (k : Int) + 1 := by rw [IntKind.wrap_i64]; omega
      cases b with
      | true =>
        have HR := hid (show wh.any id = true by rw [List.any_eq_true]; exact ⟨true, List.mem_of_getElem? hb, rfl⟩)
        rw [show kdW true = 2 from rfl] at c0
        clear HC HN hb hf hk hkn
        go_wp2
        go_ret
        exact ⟨by rw [HR.out]; rfl, rfl⟩
      | false =>
        have HR := hid (show (wh.take (k + 1)).any id = false by rw [List.take_add_one, hb, List.any_append, hf]; rfl)
        have HK := hid (show k + 1 ≤ n by omega)
        have HM := hid (show n - ((k : Int) + 1).toNat < n - ((k : Int)).toNat by omega)
        rw [show kdW false = 4 from rfl] at c0
        clear HC HN hb hf hk hkn
        go_wp2
        go_round
        case rel => exact ⟨k + 1, HK.out, HR.out, rfl⟩
        case measure => exact HM.out
    · have e1 : k = n := by omega
      subst e1
      have k1 : ¬ (k : Int) < k := by omega
      rw [← HN.out, List.take_length] at hf
      have HR := hid hf
      clear HC hf hk hkn
      go_wp2
      go_ret
      exact ⟨by rw [HR.out]; rfl, rfl⟩
theorem str1 (wh : Bool) (i c : Int) (t : ByteArray) (W w2 : World) (h1 : w2.heap[W.heap.size + 1]? = some (.cells #[.int .i64 (kdW wh), .int .i64 i, .int .u64 0, .string t, .int .i64 c] 95 (0, 0))) : Calls Tryz.prog 80 #[.slice (some ⟨W.heap.size + 1, 0, none⟩) 1 1] w2 fun e w' => e = .returned (.int .i64 (erW wh)) ∧ w' = w2 := by
  have := strings8_c [wh] w2 (W.heap.size + 1) 1 (by
    intro j b hj
    have : j = 0 := by have := (List.getElem?_eq_some_iff.1 hj).1; simp at this; exact this
    subst this
    simp at hj
    subst hj
    exact cell_of_row _ _ 0 _ _ _ h1) (by simp)
  simpa using this
set_option maxRecDepth 100000 in
theorem len8_c (wh : Bool) (i c : Int) (t : ByteArray) (hv : wh = true → t.size = 0) (W : World) : Calls Tryz.prog 48 #[.agg #[.int .i64 (kdW wh), .int .i64 i, .int .u64 0, .string t, .int .i64 c]] W fun e w' => e = .returned (.tuple #[.int .i64 (t.size : Nat), .int .i64 (erW wh)]) ∧ Below W.heap.size W w' := by
  obtain ⟨w2, hw2⟩ : ∃ w2, (W.alloc (.cells #[.int .i64 (kdW wh), .int .i64 i, .int .u64 0, .string t, .int .i64 c] 95)).alloc (.cells #[.int .i64 (kdW wh), .int .i64 i, .int .u64 0, .string t, .int .i64 c] 95) = w2 := ⟨_, rfl⟩
  obtain ⟨hB, f0, f1, z2⟩ := two_alloc W _ _ _ hw2
  have cs := str1 wh i c t W w2 f1
  have c3 : w2.cell? ⟨W.heap.size, 3, none⟩ = some (.string t) := cell_of_row _ _ 3 _ _ _ f0
  clear f0 f1 z2
  generalize kdW wh = kd at *
  cases wh with
  | true =>
    rw [show erW true = 51 from rfl] at cs ⊢
    have H0 := hid (hv rfl)
    clear hv
    go_enter Tryz.func48, Tryz.ntmps48
    go_wp2_with (go_at_call 80; (with_reducible refine cs.mono ?_); rintro e w' ⟨rfl, hw⟩; (have hw' := hw.symm); subst hw'; clear hw)
    go_ret2
    exact ⟨by rw [H0.out]; rfl, hB⟩
  | false =>
    rw [show erW false = 0 from rfl] at cs ⊢
    clear hv
    go_enter Tryz.func48, Tryz.ntmps48
    go_wp2_with (go_at_call 80; (with_reducible refine cs.mono ?_); rintro e w' ⟨rfl, hw⟩; (have hw' := hw.symm); subst hw'; clear hw)
    go_ret2
    exact ⟨rfl, hB⟩
/-- the answer of Byte -/
def bytW (wh : Bool) (t : ByteArray) (k : Int) : Int := if wh = true then 0 else byteR t k
def bytF (wh : Bool) (t : ByteArray) (k : Int) : Int := if wh = true then 51 else byteE t k
set_option maxRecDepth 100000 in
theorem byte8_c (wh : Bool) (i c k : Int) (t : ByteArray) (ht : t.size ≤ 100000) (W : World) : Calls Tryz.prog 46 #[.agg #[.int .i64 (kdW wh), .int .i64 i, .int .u64 0, .string t, .int .i64 c], .int .i64 k] W fun e w' => e = .returned (.tuple #[.int .u8 (bytW wh t k), .int .i64 (bytF wh t k)]) ∧ Below W.heap.size W w' := by
  obtain ⟨w2, hw2⟩ : ∃ w2, (W.alloc (.cells #[.int .i64 (kdW wh), .int .i64 i, .int .u64 0, .string t, .int .i64 c] 95)).alloc (.cells #[.int .i64 (kdW wh), .int .i64 i, .int .u64 0, .string t, .int .i64 c] 95) = w2 := ⟨_, rfl⟩
  obtain ⟨hB, f0, f1, z2⟩ := two_alloc W _ _ _ hw2
  have cs := str1 wh i c t W w2 f1
  have c3 : w2.cell? ⟨W.heap.size, 3, none⟩ = some (.string t) := cell_of_row _ _ 3 _ _ _ f0
  have c6 : IntKind.i64.wrap (t.size : Int) = t.size := by rw [IntKind.wrap_i64]; omega
  clear f0 f1 z2
  generalize kdW wh = kd at *
  cases wh with
  | true =>
    rw [show erW true = 51 from rfl] at cs
    rw [show bytW true t k = 0 from rfl, show bytF true t k = 51 from rfl]
    go_enter Tryz.func46, Tryz.ntmps46
    go_wp2_with (go_at_call 80; (with_reducible refine cs.mono ?_); rintro e w' ⟨rfl, hw⟩; (have hw' := hw.symm); subst hw'; clear hw)
    go_ret2
    exact ⟨rfl, hB⟩
  | false =>
    rw [show erW false = 0 from rfl] at cs
    rw [show bytW false t k = byteR t k from rfl, show bytF false t k = byteE t k from rfl]
    by_cases c1 : k < 0
    · have HR : Hid (byteR t k = 0) := hid (by unfold byteR; rw [dif_neg (by omega)])
      have HQ : Hid (byteE t k = 31) := hid (by unfold byteE; rw [if_neg (by omega)])
      go_enter Tryz.func46, Tryz.ntmps46
      go_wp2_with (go_at_call 80; (with_reducible refine cs.mono ?_); rintro e w' ⟨rfl, hw⟩; (have hw' := hw.symm); subst hw'; clear hw)
      go_ret2
      exact ⟨by rw [HR.out, HQ.out]; rfl, hB⟩
    · by_cases c2 : k < t.size
      · have c4 : 0 ≤ k := by omega
        obtain ⟨n, rfl⟩ : ∃ n : Nat, k = n := ⟨k.toNat, by omega⟩
        have hk : n < t.size := by omega
        have HR : Hid (byteR t (n : Int) = ((t[n]).toNat : Nat)) := hid (by unfold byteR; rw [dif_pos (by omega)]; rfl)
        have HQ : Hid (byteE t (n : Int) = 0) := hid (by unfold byteE; rw [if_pos (by omega)])
        have c5 : ¬ (n : Int) ≥ t.size := by omega
        have c7 : ¬ (n : Int) < 0 := by omega
        clear c1 c2
        go_enter Tryz.func46, Tryz.ntmps46
        go_wp2_with (go_at_call 80; (with_reducible refine cs.mono ?_); rintro e w' ⟨rfl, hw⟩; (have hw' := hw.symm); subst hw'; clear hw)
        go_ret2
        exact ⟨by rw [HR.out, HQ.out]; rfl, hB⟩
      · have HR : Hid (byteR t k = 0) := hid (by unfold byteR; rw [dif_neg (by omega)])
        have HQ : Hid (byteE t k = 31) := hid (by unfold byteE; rw [if_neg (by omega)])
        have c3 : k ≥ t.size := by omega
        go_enter Tryz.func46, Tryz.ntmps46
        go_wp2_with (go_at_call 80; (with_reducible refine cs.mono ?_); rintro e w' ⟨rfl, hw⟩; (have hw' := hw.symm); subst hw'; clear hw)
        go_ret2
        exact ⟨by rw [HR.out, HQ.out]; rfl, hB⟩
end Go.Proofs.YtndkfjoaiinjoaaGreat.W
