import Derived.Test.YtndkfjoaiinjoaaGreatBase33
/- The reference's text (casketref8): Compare. -/
namespace Go.Proofs.YtndkfjoaiinjoaaGreat.W
open Go.ChangeShapes Go.WideShapes Go.RowKit Go.Shelf
set_option linter.unusedVariables false
set_option linter.unusedSimpArgs false
theorem str2 (wh wh' : Bool) (i c i' c' : Int) (x y : ByteArray) (g : Nat) (w2 : World) (h1 : w2.heap[g]? = some (.cells #[.int .i64 (kdW wh), .int .i64 i, .int .u64 0, .string x, .int .i64 c, .int .i64 (kdW wh'), .int .i64 i', .int .u64 0, .string y, .int .i64 c'] 95 (0, 0))) : Calls Tryz.prog 80 #[.slice (some ⟨g, 0, none⟩) 2 2] w2 fun e w' => e = .returned (.int .i64 (erW (wh || wh'))) ∧ w' = w2 := by
  have := strings8_c [wh, wh'] w2 g 2 (by
    intro j b hj
    have : j = 0 ∨ j = 1 := by have := (List.getElem?_eq_some_iff.1 hj).1; simp at this; omega
    rcases this with rfl | rfl
    · simp at hj
      subst hj
      exact cell_of_row _ _ 0 _ _ _ h1
    · simp at hj
      subst hj
      exact cell_of_row _ _ 5 _ _ _ h1) (by simp)
  simpa using this
theorem ord_fin (x y : ByteArray) (k : Nat) (h : (byL x).take k = (byL y).take k) (hx : k ≤ x.size) (hy : k ≤ y.size) (hn : ¬ (k < x.size ∧ k < y.size)) : ordL (byL x) (byL y) = cmpI x.size y.size := by
  by_cases c : k = x.size
  · have := ordL_end (byL x) (byL y) (by rw [byL_len, ← c, ← h, List.take_of_length_le (by rw [byL_len]; omega)]) (by rw [byL_len, byL_len]; omega)
    rw [byL_len, byL_len] at this
    exact this
  · have e : k = y.size := by omega
    rw [ordL_end1 (byL x) (byL y) k h (by rw [byL_len]; omega) (by rw [byL_len]; exact e)]
    unfold cmpI
    rw [if_neg (by omega), if_pos (by omega)]
/-- the answer of Compare -/
def cmpW (wh : Bool) (x y : ByteArray) : Int := if wh = true then 0 else ordL (byL x) (byL y)
theorem three_alloc (W : World) (a b d : Array Value) (t : TypeId) {w2 : World} (h : ((W.alloc (.cells a t)).alloc (.cells b t)).alloc (.cells d t) = w2) : Below W.heap.size W w2 ∧ w2.heap[W.heap.size]? = some (.cells a t (0, 0)) ∧ w2.heap[W.heap.size + 1]? = some (.cells b t (0, 0)) ∧ w2.heap[W.heap.size + 2]? = some (.cells d t (0, 0)) ∧ w2.heap.size = W.heap.size + 3 := by
  obtain ⟨h1, h2, h3, h4⟩ := two_alloc W a b t rfl
  subst h
  have b2 : Below ((W.alloc (.cells a t)).alloc (.cells b t)).heap.size ((W.alloc (.cells a t)).alloc (.cells b t)) (((W.alloc (.cells a t)).alloc (.cells b t)).alloc (.cells d t)) := (Below.refl _ _).alloc (Nat.le_refl _) _
  refine ⟨h1.trans (b2.mono h1.size), (b2.block _ (by omega)).trans h2, (b2.block _ (by omega)).trans h3, ?_, by rw [World.size_alloc]; omega⟩
  have := World.alloc_heap_new ((W.alloc (.cells a t)).alloc (.cells b t)) (.cells d t)
  rw [h4] at this
  exact this
set_option maxRecDepth 100000 in
set_option maxHeartbeats 2000000 in
theorem compare8_c (wh wh' : Bool) (i c i' c' : Int) (x y : ByteArray) (hx : x.size ≤ 100000) (hy : y.size ≤ 100000) (W : World) : Calls Tryz.prog 47 #[.agg #[.int .i64 (kdW wh), .int .i64 i, .int .u64 0, .string x, .int .i64 c], .agg #[.int .i64 (kdW wh'), .int .i64 i', .int .u64 0, .string y, .int .i64 c']] W fun e w' => e = .returned (.tuple #[.int .i64 (cmpW (wh || wh') x y), .int .i64 (erW (wh || wh'))]) ∧ Below W.heap.size W w' := by
  obtain ⟨w2, hw2⟩ : ∃ w2, ((W.alloc (.cells #[.int .i64 (kdW wh), .int .i64 i, .int .u64 0, .string x, .int .i64 c] 95)).alloc (.cells #[.int .i64 (kdW wh'), .int .i64 i', .int .u64 0, .string y, .int .i64 c'] 95)).alloc (.cells #[.int .i64 (kdW wh), .int .i64 i, .int .u64 0, .string x, .int .i64 c, .int .i64 (kdW wh'), .int .i64 i', .int .u64 0, .string y, .int .i64 c'] 95) = w2 := ⟨_, rfl⟩
  obtain ⟨hB, f0, f1, f2, z2⟩ := three_alloc W _ _ _ _ hw2
  have cs := str2 wh wh' i c i' c' x y _ w2 f2
  have c0 : w2.cell? ⟨W.heap.size, 3, none⟩ = some (.string x) := cell_of_row _ _ 3 _ _ _ f0
  have c1 : w2.cell? ⟨W.heap.size + 1, 3, none⟩ = some (.string y) := cell_of_row _ _ 3 _ _ _ f1
  clear f0 f1 f2
  generalize kdW wh = kd at *
  generalize kdW wh' = kd' at *
  cases hb : (wh || wh') with
  | true =>
    rw [hb, show erW true = 51 from rfl] at cs
    rw [show cmpW true x y = 0 from rfl, show erW true = 51 from rfl]
    go_enter Tryz.func47, Tryz.ntmps47
    go_wp2_with (go_at_call 80; (with_reducible refine cs.mono ?_); rintro e w' ⟨rfl, hw⟩; (have hw' := hw.symm); subst hw'; clear hw)
    go_ret2
    exact ⟨rfl, hB⟩
  | false =>
    rw [hb, show erW false = 0 from rfl] at cs
    rw [show cmpW false x y = ordL (byL x) (byL y) from rfl, show erW false = 0 from rfl]
    have HB := hid hB
    have ZZ := hid z2
    clear hB z2
    go_enter Tryz.func47, Tryz.ntmps47
    go_wp2_with (go_at_call 80; (with_reducible refine cs.mono ?_); rintro e w' ⟨rfl, hw⟩; (have hw' := hw.symm); subst hw'; clear hw)
    have HC := hid (And.intro c0 c1)
    clear c0 c1 cs
    go_loopw [7] (fun ii wr => ∃ k : Nat, k ≤ x.size ∧ k ≤ y.size ∧ (byL x).take k = (byL y).take k ∧ ii = .int .i64 k ∧ Below w2.heap.size w2 wr) (fun ii _ => x.size - (intOf ii).toNat)
    case atStart => exact ⟨0, Nat.zero_le _, Nat.zero_le _, rfl, rfl, Below.refl _ _⟩
    case round =>
      obtain ⟨k, hkx, hky, htk, rfl, hBr⟩ := hrel
      have c0 := below_cell hBr HC.out.1
      have c1 := below_cell hBr HC.out.2
      have w1 : IntKind.i64.wrap ((k : Int) + 1) = (k : Int) + 1 := by rw [IntKind.wrap_i64]; omega
      by_cases hlt : k < x.size ∧ k < y.size
      · obtain ⟨l1, l2⟩ := hlt
        have k0 : (0 : Int) ≤ k := Int.natCast_nonneg _
        have k1 : (k : Int) < x.size := by omega
        have k2 : (k : Int) < y.size := by omega
        have hxk := byL_get x k l1
        have hyk := byL_get y k l2
        obtain ⟨xk, exk⟩ : ∃ n, (x[k]).toNat = n := ⟨_, rfl⟩
        obtain ⟨yk, eyk⟩ : ∃ n, (y[k]).toNat = n := ⟨_, rfl⟩
        rw [exk] at hxk
        rw [eyk] at hyk
        have BR := hid hBr
        go_upto_region 7 with fail
        have inst : Nonempty (TBW wr) := ⟨⟨_, Below.refl _ _⟩⟩
        have e0 := TBW.cell c0
        have e1 := TBW.cell c1
        refine tbw_region (by kernel_rfl) (by kernel_rfl) ?_
        repeat (go_big_quiet_step (fail))
        refine wpQuiet_nil ?_
        intro _ hw'
        obtain ⟨pw, hw''⟩ := hw'
        subst hw''
        have hBp := hBr.trans (pw.h.mono hBr.size)
        have BP := hid hBp
        by_cases q1 : xk < yk
        · have HR := hid (show ordL (byL x) (byL y) = -1 by rw [ordL_ne (byL x) (byL y) k htk xk yk hxk hyk (by omega)]; unfold cmpI; rw [if_pos (by omega)])
          rw [decide_eq_true q1]
          clear e0 e1 c0 c1 htk hxk hyk hBp BR hBr
          go_wp2
          go_ret2
          exact ⟨by rw [HR.out]; rfl, HB.out.trans (BP.out.mono HB.out.size)⟩
        · rw [decide_eq_false q1]
          have c0' := below_cell pw.h c0
          have c1' := below_cell pw.h c1
          clear e0 e1 c0 c1 hBr BR
          go_upto_region 9 with fail
          obtain ⟨w4, hw4⟩ : ∃ w4, pw.w' = w4 := ⟨_, rfl⟩
          rw [hw4] at c0' c1' BP
          rw [hw4]
          clear hw4 hBp
          have inst2 : Nonempty (TBW w4) := ⟨⟨_, Below.refl _ _⟩⟩
          have e0 := TBW.cell c0'
          have e1 := TBW.cell c1'
          refine tbw_region (by kernel_rfl) (by kernel_rfl) ?_
          repeat (go_big_quiet_step (fail))
          refine wpQuiet_nil ?_
          intro _ hw'
          obtain ⟨pw2, hw''⟩ := hw'
          subst hw''
          have BQ := hid (BP.out.trans (pw2.h.mono BP.out.size))
          by_cases q2 : xk > yk
          · have HR := hid (show ordL (byL x) (byL y) = 1 by rw [ordL_ne (byL x) (byL y) k htk xk yk hxk hyk (by omega)]; unfold cmpI; rw [if_neg (by omega), if_pos (by omega)])
            have q3 : yk < xk := q2
            rw [decide_eq_true q3]
            clear e0 e1 c0' c1' htk hxk hyk
            go_wp2
            go_ret2
            exact ⟨by rw [HR.out]; rfl, HB.out.trans (BQ.out.mono HB.out.size)⟩
          · have e : xk = yk := by omega
            subst e
            have q3 : ¬ xk < xk := by omega
            rw [decide_eq_false q3]
            have HT := hid (take_byL htk hxk hyk)
            have HJ := hid (And.intro (show k + 1 ≤ x.size by omega) (show k + 1 ≤ y.size by omega))
            have HM := hid (show x.size - ((k : Int) + 1).toNat < x.size - ((k : Int)).toNat by omega)
            clear e0 e1 c0' c1' htk hxk hyk
            go_wp2
            go_roundw
            case rel => exact ⟨k + 1, HJ.out.1, HJ.out.2, HT.out, rfl, BQ.out⟩
            case measure => exact HM.out
      · have HR := hid (ord_fin x y k htk hkx hky hlt)
        have BR := hid (HB.out.trans (hBr.mono HB.out.size))
        have hk2 : ¬ (k : Int) < x.size ∨ ((k : Int) < x.size ∧ ¬ (k : Int) < y.size) := by omega
        clear htk hBr
        by_cases q1 : x.size < y.size
        · have HQ := hid (show cmpI x.size y.size = -1 by unfold cmpI; rw [if_pos (by omega)])
          have q2 : (x.size : Int) < y.size := by omega
          clear hlt hkx hky w1
          rcases hk2 with hk2 | ⟨hk2, hk3⟩
          · go_wp2
            go_ret2
            exact ⟨by rw [HR.out, HQ.out]; rfl, BR.out⟩
          · omega
        · by_cases q3 : y.size < x.size
          · have HQ := hid (show cmpI x.size y.size = 1 by unfold cmpI; rw [if_neg (by omega), if_pos (by omega)])
            have q2 : ¬ (x.size : Int) < y.size := by omega
            have q4 : (x.size : Int) > y.size := by omega
            clear hlt hkx hky w1
            rcases hk2 with hk2 | ⟨hk2, hk3⟩
            · go_wp2
              go_ret2
              exact ⟨by rw [HR.out, HQ.out]; rfl, BR.out⟩
            · go_wp2
              go_ret2
              exact ⟨by rw [HR.out, HQ.out]; rfl, BR.out⟩
          · have HQ := hid (show cmpI x.size y.size = 0 by unfold cmpI; rw [if_neg (by omega), if_neg (by omega)])
            have q2 : ¬ (x.size : Int) < y.size := by omega
            have q4 : ¬ (x.size : Int) > y.size := by omega
            clear hlt hkx hky w1
            rcases hk2 with hk2 | ⟨hk2, hk3⟩
            · go_wp2
              go_ret2
              exact ⟨by rw [HR.out, HQ.out]; rfl, BR.out⟩
            · omega
end Go.Proofs.YtndkfjoaiinjoaaGreat.W
/- Regions with two orders; the reference's roots with one or two values more. -/
namespace Go.Proofs.YtndkfjoaiinjoaaGreat.W
open Go.ChangeShapes Go.WideShapes Go.RowKit Go.Shelf
set_option linter.unusedVariables false
set_option linter.unusedSimpArgs false
section
variable {n : Nat} {P : Program} {ops : Array Oper} {Q : Exit → Act → World → Prop} {md : Region.Mode} {S : World → Prop} {z : Nat}
/-- two operations are ready -/
theorem anyL_two {i j : Nat} {oi oj : Oper} {k : Nat} {l : Array Bool} {a : Act} {w : World} (hr : Region.ready md ops l = [i, j]) (ho : ops[i]? = some oi) (hw : Region.wanted oi (yielded ops a.tmps) = true) (ho' : ops[j]? = some oj) (hw' : Region.wanted oj (yielded ops a.tmps) = true)
    (h : ∀ K : Act → World → Prop, (∀ a' w', (i = z ∨ S w') → anyL n P md ops Q S z k (l.setIfInBounds i true) a' w' → K a' w') → oi.wpIn Fence.wide n P a w K Q)
    (h' : ∀ K : Act → World → Prop, (∀ a' w', (j = z ∨ S w') → anyL n P md ops Q S z k (l.setIfInBounds j true) a' w' → K a' w') → oj.wpIn Fence.wide n P a w K Q) : anyL n P md ops Q S z (k + 1) l a w := by
  refine ⟨fun h0 => absurd (hr.symm.trans h0) (by simp), fun t ht => ?_⟩
  rw [hr] at ht
  simp at ht
  rcases ht with rfl | rfl
  · unfold wpOpIn
    rw [ho]
    simp only [hw, if_true]
    exact h _ (fun a' w' h1 h2 => ⟨h1, h2⟩)
  · unfold wpOpIn
    rw [ho']
    simp only [hw', if_true]
    exact h' _ (fun a' w' h1 h2 => ⟨h1, h2⟩)
/-- several ways lead to one place -/
theorem anyL_cut {k : Nat} {l : Array Bool} {a : Act} {w : World} (R : Act → Act → World → Prop) (k' : Nat) (l' : Array Bool) (hT : ∀ a' w', R a a' w' → anyL n P md ops Q S z k' l' a' w')
    (h : (∀ a' w', R a a' w' → anyL n P md ops Q S z k' l' a' w') → anyL n P md ops Q S z k l a w) : anyL n P md ops Q S z k l a w := h hT
theorem anyL_same {k : Nat} {l l' : Array Bool} {a a' : Act} {w : World} (e : l = l') (e' : a = a') (h : anyL n P md ops Q S z k l' a' w) : anyL n P md ops Q S z k l a w := by
  subst e
  subst e'
  exact h
end
theorem lit_own (w : World) (g : Nat) (bs : List Tv) (hn : bs.length ≤ 1000) (h : w.heap[g]? = some (.cells (flatT bs).toArray 95 (0, 0))) : w.ownsRow 0 95 5 (.slice (some ⟨g, 0, none⟩) bs.length bs.length) bs.length (flatT bs) := by
  have hs : (flatT bs).toArray.size = bs.length * 5 := by simp [flatT_len]
  refine ⟨flatT_len bs, .inr ⟨g, bs.length, (flatT bs).toArray, rfl, Nat.zero_le _, h, Nat.le_refl _, ?_, hs, ?_⟩⟩
  · unfold maxLen; omega
  · rw [List.toList_toArray, List.take_of_length_le (by rw [flatT_len]; exact Nat.le_refl _)]
theorem SPost.two {W W' : World} {rb room : Nat} {lv : Value} {L : List Rc} {ks : List Int} {v : Tv} {sm : Bool} {e : Ending} (h : SPost W rb lv room L ks v sm e W') : ∃ x0 x1 x3 x4 y, e = .returned (.tuple #[.agg #[.int .i64 x0, .int .i64 x1, .int .u64 0, .string x3, .int .i64 x4], .int .i64 y]) := by
  obtain ⟨_, _, _, ⟨_, rfl, _⟩ | ⟨_, _, rfl, _⟩ | ⟨_, _, rfl, _⟩⟩ := h
  · exact ⟨_, _, _, _, _, rfl⟩
  · exact ⟨_, _, _, _, _, rfl⟩
  · exact ⟨_, _, _, _, _, rfl⟩
/-- what was laid before and behind is nobody's -/
theorem SPost.wrap {W W4 W5 W6 : World} {rb room : Nat} {lv : Value} {L : List Rc} {ks : List Int} {v : Tv} {sm : Bool} {e : Ending} (h : SPost W4 rb lv room L ks v sm e W5) (h0 : Rh W rb lv room L) (hB : Below W.heap.size W W4) {gb : Nat} (h1 : W.heap.size ≤ gb) (h2 : gb < W4.heap.size) (hU : Upd (fun k => k = gb) W5 W6) : SPost W rb lv room L ks v sm e W6 := by
  obtain ⟨lv', q1, q2, q3⟩ := h
  have key : ∀ M, Rh W5 rb lv' room M → Rh W6 rb lv' room M := fun M hM => hM.on (fun k hk => hU.block k (hM.lt k hk) (by
    intro e
    rcases hk with hk | hk
    · have := h0.lt rb (.inl rfl); omega
    · rcases q2 k hk with g | g
      · have := h0.lt k (.inr g); omega
      · omega))
  refine ⟨lv', ?_, fun k e => (q2 k e).imp id (fun g => Nat.le_trans hB.size g), ?_⟩
  · have u1 := (Upd.of_below (S := fun k => k = rb ∨ lv.ownBlock = some k) hB).trans' q1
    refine u1.trans (hU.mono ?_)
    intro k e
    exact .inr ⟨by omega, by have := q1.size; omega⟩
  · rcases q3 with ⟨a, b, c⟩ | ⟨a, b, c, d⟩ | ⟨a, b, c, d⟩
    · exact .inl ⟨a, b, key _ c⟩
    · exact .inr (.inl ⟨a, b, c, key _ d⟩)
    · exact .inr (.inr ⟨a, b, c, key _ d⟩)
theorem four_alloc (W : World) (a b d f : Array Value) (t : TypeId) {w2 : World} (h : (((W.alloc (.cells a t)).alloc (.cells b t)).alloc (.cells d t)).alloc (.cells f t) = w2) : Below W.heap.size W w2 ∧ w2.heap[W.heap.size]? = some (.cells a t (0, 0)) ∧ w2.heap[W.heap.size + 1]? = some (.cells b t (0, 0)) ∧ w2.heap[W.heap.size + 2]? = some (.cells d t (0, 0)) ∧ w2.heap[W.heap.size + 3]? = some (.cells f t (0, 0)) ∧ w2.heap.size = W.heap.size + 4 := by
  obtain ⟨h1, h2, h3, h4, h5⟩ := three_alloc W a b d t rfl
  subst h
  have b2 : Below (((W.alloc (.cells a t)).alloc (.cells b t)).alloc (.cells d t)).heap.size (((W.alloc (.cells a t)).alloc (.cells b t)).alloc (.cells d t)) ((((W.alloc (.cells a t)).alloc (.cells b t)).alloc (.cells d t)).alloc (.cells f t)) := (Below.refl _ _).alloc (Nat.le_refl _) _
  refine ⟨h1.trans (b2.mono h1.size), (b2.block _ (by omega)).trans h2, (b2.block _ (by omega)).trans h3, (b2.block _ (by omega)).trans h4, ?_, by rw [World.size_alloc]; omega⟩
  have := World.alloc_heap_new (((W.alloc (.cells a t)).alloc (.cells b t)).alloc (.cells d t)) (.cells f t)
  rw [h5] at this
  exact this
end Go.Proofs.YtndkfjoaiinjoaaGreat.W
