/- The walk of the statement that what is printed is read back. -/
import Derived.Test.YtmdpnoebpjoiaaaDoorST4
import Derived.Deep.QuietTactic
import Derived.BigQuiet
import Derived.Deep.DeepCutAuto
namespace Go.Proofs.YtmdpnoebpjoiaaaDoor.W
open Go.ChangeShapes Go.WideShapes Go.RowKit
set_option maxRecDepth 1000000 in
set_option maxHeartbeats 2000000 in
theorem textBack_core (i u x k l y m : Int) (s X1 X2 X3 : ByteArray) (w wk : World) (hS : St w wk) (hs : ¬ 1000 < s.size)
    (ci : ∀ w, Tabs w → Calls Tryd.prog 9 #[.int .i64 i] w fun e w' => e = .returned (.string X1) ∧ Below w.heap.size w w')
    (cp1 : ∀ w, Calls Tryd.prog 15 #[.string X1] w fun e w' => e = .returned (.tuple #[.int .i64 i, .int .i64 0]) ∧ w' = w)
    (cf : ∀ w, Tabs w → Calls Tryd.prog 11 #[.int .u64 u] w fun e w' => e = .returned (.string X2) ∧ Below w.heap.size w w')
    (cp2 : ∀ w, Tabs w → Calls Tryd.prog 17 #[.string X2] w fun e w' => e = .returned (.tuple #[.int .u64 x, .int .i64 0]) ∧ Below w.heap.size w w')
    (cw : ∀ w, Calls Tryd.prog 21 #[.int .u64 u] w fun e w' => e = .returned (.int .u64 x) ∧ w' = w)
    (ct1 : ∀ w, Tabs w → Calls Tryd.prog 13 #[.agg #[.bool true, .int .i64 i, .int .u64 0]] w fun e w' => e = .returned (.string X1) ∧ Below w.heap.size w w')
    (ct2 : ∀ w, Tabs w → Calls Tryd.prog 13 #[.agg #[.bool false, .int .i64 0, .int .u64 u]] w fun e w' => e = .returned (.string X2) ∧ Below w.heap.size w w')
    (cn1 : ∀ w, Tabs w → Calls Tryd.prog 19 #[.string X1] w fun e w' => e = .returned (.tuple #[.agg #[.bool true, .int .i64 i, .int .u64 0], .int .i64 0]) ∧ Below w.heap.size w w')
    (cn2 : ∀ w, Tabs w → Calls Tryd.prog 19 #[.string X2] w fun e w' => e = .returned (.tuple #[.agg #[.bool false, .int .i64 0, .int .u64 x], .int .i64 0]) ∧ Below w.heap.size w w')
    (cs : ∀ w, Calls Tryd.prog 15 #[.string s] w fun e w' => e = .returned (.tuple #[.int .i64 k, .int .i64 l]) ∧ w' = w)
    (hl : (l == 0) = false ∨ (l == 0) = true ∧ ∀ w, Tabs w → Calls Tryd.prog 9 #[.int .i64 k] w fun e w' => e = .returned (.string s) ∧ Below w.heap.size w w')
    (cx : ∀ w, Tabs w → Calls Tryd.prog 17 #[.string s] w fun e w' => e = .returned (.tuple #[.int .u64 y, .int .i64 m]) ∧ Below w.heap.size w w')
    (hm : (m != 0) = true ∨ (m != 0) = false ∧ (∀ w, Tabs w → Calls Tryd.prog 11 #[.int .u64 y] w fun e w' => e = .returned (.string X3) ∧ Below w.heap.size w w') ∧
      (∀ w, Tabs w → Calls Tryd.prog 17 #[.string X3] w fun e w' => e = .returned (.tuple #[.int .u64 y, .int .i64 0]) ∧ Below w.heap.size w w') ∧
      (∀ w, Calls Tryd.prog 21 #[.int .u64 y] w fun e w' => e = .returned (.int .u64 y) ∧ w' = w)) :
    Calls Tryd.prog 5 #[.int .i64 i, .int .u64 u, .string s] wk fun e w' => e = .returned (.bool true) ∧ Below w.heap.size w w' := by
  go_enter Tryd.func5, Tryd.ntmps5
  go_upto_region 8 with (first | (go_at_call 9; (with_reducible refine (ci _ hS.tabs).mono ?_); rintro e wn ⟨rfl, hb⟩; (replace hS := hS.go hb); clear hb) | (go_at_call 15; (first | (with_reducible refine (cp1 _).mono ?_) | (with_reducible refine (cs _).mono ?_)); rintro e wn ⟨rfl, hz⟩; (have hz' := hz.symm); subst hz'; clear hz) | (go_at_call 11; (with_reducible refine (cf _ hS.tabs).mono ?_); rintro e wn ⟨rfl, hb⟩; (replace hS := hS.go hb); clear hb) | (go_at_call 17; (with_reducible refine (cp2 _ hS.tabs).mono ?_); rintro e wn ⟨rfl, hb⟩; (replace hS := hS.go hb); clear hb) | (go_at_call 21; (with_reducible refine (cw _).mono ?_); rintro e wn ⟨rfl, hz⟩; (have hz' := hz.symm); subst hz'; clear hz) | (go_at_call 13; (with_reducible refine (ct1 _ hS.tabs).mono ?_); rintro e wn ⟨rfl, hb⟩; (replace hS := hS.go hb); clear hb) | (go_at_call 19; (with_reducible refine (cn1 _ hS.tabs).mono ?_); rintro e wn ⟨rfl, hb⟩; (replace hS := hS.go hb); clear hb))
  have f1 := Blk.new wn #[Value.bool true, Value.int .i64 i, Value.int .u64 0] 27
  replace hS := hS.alloc (Obj.cells #[Value.bool true, Value.int .i64 i, Value.int .u64 0] 27)
  generalize World.alloc wn _ = W1 at *
  generalize wn.heap.size = b1 at *
  go_upto_region 9 with (first | (go_at_call 13; (with_reducible refine (ct2 _ hS.tabs).mono ?_); rintro e wn ⟨rfl, hb⟩; (replace hS := hS.go hb); (replace f1 := f1.go hb); clear hb) | (go_at_call 19; (with_reducible refine (cn2 _ hS.tabs).mono ?_); rintro e wn ⟨rfl, hb⟩; (replace hS := hS.go hb); (replace f1 := f1.go hb); clear hb))
  have f2 := Blk.new wn #[Value.bool false, Value.int .i64 0, Value.int .u64 x] 27
  replace f1 := f1.alloc (Obj.cells #[Value.bool false, Value.int .i64 0, Value.int .u64 x] 27)
  replace hS := hS.alloc (Obj.cells #[Value.bool false, Value.int .i64 0, Value.int .u64 x] 27)
  generalize World.alloc wn _ = W2 at *
  generalize wn.heap.size = b2 at *
  have g0 := f1.cells 0
  have g1 := f1.cells 1
  have g2 := f1.cells 2
  have g3 := f2.cells 0
  have g4 := f2.cells 1
  have g5 := f2.cells 2
  simp at g0 g1 g2 g3 g4 g5
  go_quiet ((go_at_call 21; exact Calls.quiet_of_same (cw _)))
  replace hS := hS.drewN nq
  clear f1 f2 g0 g1 g2 g3 g4 g5 ct1 ct2 cn1 cn2 ci cp1 cf cp2 cw
  generalize World.drewN W2 nq = W3 at *
  rcases hl with hl | ⟨hl, ck⟩ <;> rcases hm with hm | ⟨hm, d1, d2, d3⟩
  · go_wp2_with (first | (go_at_call 15; (with_reducible refine (cs _).mono ?_); rintro e wn ⟨rfl, hz⟩; (have hz' := hz.symm); subst hz'; clear hz) | (go_at_call 17; (with_reducible refine (cx _ hS.tabs).mono ?_); rintro e wn ⟨rfl, hb⟩; (replace hS := hS.go hb); clear hb) | (go_at_call 14; refine (awake_c _ hS.tabs).mono ?_; rintro e wn ⟨rfl, hb⟩; (replace hS := hS.go hb); clear hb))
    go_ret
    exact ⟨rfl, hS.below⟩
  · go_wp2_with (first | (go_at_call 15; (with_reducible refine (cs _).mono ?_); rintro e wn ⟨rfl, hz⟩; (have hz' := hz.symm); subst hz'; clear hz) | (go_at_call 17; (first | (with_reducible refine (cx _ hS.tabs).mono ?_) | (with_reducible refine (d2 _ hS.tabs).mono ?_)); rintro e wn ⟨rfl, hb⟩; (replace hS := hS.go hb); clear hb) | (go_at_call 11; (with_reducible refine (d1 _ hS.tabs).mono ?_); rintro e wn ⟨rfl, hb⟩; (replace hS := hS.go hb); clear hb) | (go_at_call 21; (with_reducible refine (d3 _).mono ?_); rintro e wn ⟨rfl, hz⟩; (have hz' := hz.symm); subst hz'; clear hz) | (go_at_call 14; refine (awake_c _ hS.tabs).mono ?_; rintro e wn ⟨rfl, hb⟩; (replace hS := hS.go hb); clear hb))
    go_ret
    exact ⟨rfl, hS.below⟩
  · go_wp2_with (first | (go_at_call 15; (with_reducible refine (cs _).mono ?_); rintro e wn ⟨rfl, hz⟩; (have hz' := hz.symm); subst hz'; clear hz) | (go_at_call 9; (with_reducible refine (ck _ hS.tabs).mono ?_); rintro e wn ⟨rfl, hb⟩; (replace hS := hS.go hb); clear hb) | (go_at_call 17; (with_reducible refine (cx _ hS.tabs).mono ?_); rintro e wn ⟨rfl, hb⟩; (replace hS := hS.go hb); clear hb) | (go_at_call 14; refine (awake_c _ hS.tabs).mono ?_; rintro e wn ⟨rfl, hb⟩; (replace hS := hS.go hb); clear hb))
    go_ret
    exact ⟨rfl, hS.below⟩
  · go_wp2_with (first | (go_at_call 15; (with_reducible refine (cs _).mono ?_); rintro e wn ⟨rfl, hz⟩; (have hz' := hz.symm); subst hz'; clear hz) | (go_at_call 9; (with_reducible refine (ck _ hS.tabs).mono ?_); rintro e wn ⟨rfl, hb⟩; (replace hS := hS.go hb); clear hb) | (go_at_call 17; (first | (with_reducible refine (cx _ hS.tabs).mono ?_) | (with_reducible refine (d2 _ hS.tabs).mono ?_)); rintro e wn ⟨rfl, hb⟩; (replace hS := hS.go hb); clear hb) | (go_at_call 11; (with_reducible refine (d1 _ hS.tabs).mono ?_); rintro e wn ⟨rfl, hb⟩; (replace hS := hS.go hb); clear hb) | (go_at_call 21; (with_reducible refine (d3 _).mono ?_); rintro e wn ⟨rfl, hz⟩; (have hz' := hz.symm); subst hz'; clear hz) | (go_at_call 14; refine (awake_c _ hS.tabs).mono ?_; rintro e wn ⟨rfl, hb⟩; (replace hS := hS.go hb); clear hb))
    go_ret
    exact ⟨rfl, hS.below⟩
theorem parseF (l : List UInt8) (x e : Int) (hl : l.length ≤ 1000) (h : readF l = (x, e)) (w : World) (ht : Tabs w) :
    Calls Tryd.prog 17 #[.string ⟨l.toArray⟩] w fun r w' => r = .returned (.tuple #[.int .u64 x, .int .i64 e]) ∧ Below w.heap.size w w' := by
  have c := parseFloat_c ⟨l.toArray⟩ (str_max l hl) w ht
  have e1 : readF (⟨l.toArray⟩ : ByteArray).data.toList = (x, e) := h
  rw [e1] at c
  exact c
theorem parseI (l : List UInt8) (x e : Int) (hl : l.length ≤ 1000) (h : readI l = (x, e)) (w : World) :
    Calls Tryd.prog 15 #[.string ⟨l.toArray⟩] w fun r w' => r = .returned (.tuple #[.int .i64 x, .int .i64 e]) ∧ w' = w := by
  have c := parseInt_c ⟨l.toArray⟩ (str_max l hl) w
  have e1 : readI (⟨l.toArray⟩ : ByteArray).data.toList = (x, e) := h
  rw [e1] at c
  exact c
theorem parseN (l : List UInt8) (n : Bool × Int × Int × Int) (hl : l.length ≤ 1000) (h : readN l = n) (w : World) (ht : Tabs w) :
    Calls Tryd.prog 19 #[.string ⟨l.toArray⟩] w fun r w' => r = .returned (numV n) ∧ Below w.heap.size w w' := by
  have c := parse_c ⟨l.toArray⟩ (str_max l hl) w ht
  have e1 : readN (⟨l.toArray⟩ : ByteArray).data.toList = n := h
  rw [e1] at c
  exact c
theorem textBack_walk (a0 a1 : Int) (a2 : ByteArray) (h0 : (Lit.int .i64 a0).wf = true) (h1 : (Lit.int .u64 a1).wf = true) (h2 : a2.size ≤ maxLen) (w : World) (ht : Tabs w) :
    Calls Tryd.prog 5 #[.int .i64 a0, .int .u64 a1, .string a2] w fun e w' => e = .returned (.bool true) ∧ Below w.heap.size w w' := by
  replace h0 := bounds_i64 h0
  replace h1 := bounds_u64 h1
  by_cases hs : 1000 < a2.size
  · unfold maxLen at h2
    go_enter Tryd.func5, Tryd.ntmps5
    go_wp2_with fail
    go_ret
    exact ⟨rfl, Below.refl _ _⟩
  · have l0 := int_len a0 (by omega) (by omega)
    have l1 := flt_len a1 (by omega) (by omega)
    have rI : readI a2.data.toList = ((readI a2.data.toList).1, (readI a2.data.toList).2) := rfl
    have rF : readF a2.data.toList = ((readF a2.data.toList).1, (readF a2.data.toList).2) := rfl
    obtain ⟨k0, k1⟩ := readI_range _ _ _ rI
    obtain ⟨y0, y1, yw⟩ := readF_canon _ _ _ rF
    have ly := flt_len (readF a2.data.toList).1 y0 y1
    refine textBack_core a0 a1 (fltW a1) (readI a2.data.toList).1 (readI a2.data.toList).2 (readF a2.data.toList).1 (readF a2.data.toList).2 a2 _ _ ⟨(fltT (readF a2.data.toList).1).toArray⟩ w w (St.start ht) hs
      (fun w h => int_c a0 (by omega) (by omega) w h) (fun w => parseI _ _ _ (by omega) (readI_back a0 (by omega) (by omega)) w)
      (fun w h => float_c a1 (by omega) (by omega) w h) (fun w h => parseF _ _ _ (by omega) (readF_back a1 (by omega) (by omega)) w h)
      (fun w => refFromFloat_c a1 (by omega) (by omega) w)
      (fun w h => text_c true a0 0 (by omega) (by omega) (by omega) (by omega) w h) (fun w h => text_c false 0 a1 (by omega) (by omega) (by omega) (by omega) w h)
      (fun w h => parseN _ _ (by omega) (readN_int a0 (by omega) (by omega)) w h) (fun w h => parseN _ _ (by omega) (readN_flt a1 (by omega) (by omega)) w h)
      (fun w => parseInt_c a2 h2 w) ?_ (fun w h => parseFloat_c a2 h2 w h) ?_
    · by_cases hl : (readI a2.data.toList).2 = 0
      · refine Or.inr ⟨by rw [beq_iff_eq]; exact hl, fun w h => ?_⟩
        rw [hl] at rI
        have et := readI_text _ _ rI
        have c := int_c (readI a2.data.toList).1 (by omega) (by omega) w h
        rw [et, bytes_back] at c
        exact c
      · exact Or.inl (by rw [beq_eq_false_iff_ne]; exact hl)
    · by_cases hm : (readF a2.data.toList).2 = 0
      · refine Or.inr ⟨by rw [hm]; rfl, fun w h => float_c _ y0 y1 w h, fun w h => parseF _ _ _ (by omega) ?_ w h, fun w => ?_⟩
        · have := readF_back (readF a2.data.toList).1 y0 y1
          rw [yw] at this
          exact this
        · have := refFromFloat_c (readF a2.data.toList).1 y0 y1 w
          rw [yw] at this
          exact this
      · exact Or.inl (by rw [bne_iff_ne]; exact hm)
end Go.Proofs.YtmdpnoebpjoiaaaDoor.W
