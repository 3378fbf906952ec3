import Derived.Test.YtfjkkndmngaaiaaDoorXB
import Derived.Test.YtfjkkndmngaaiaaDoorXC
/- LexTwo: the walk where a text has a fault. -/
namespace Go.Proofs.YtfjkkndmngaaiaaDoor.W
open Go.ChangeShapes Go.WideShapes Go.RowKit Go.Shelf
set_option linter.unusedVariables false
/-- whatever All answers -/
theorem all_any (s : ByteArray) (hs : s.size ≤ 1000000) (w : World) (ht : Tabs w) (hm : MarksIn w) :
    Calls Tryd.prog 8 #[.string s] w fun e w' => Below w.heap.size w w' ∧ ∃ o n cap c f, e = .returned (.tuple #[.slice o n cap, .agg #[.int .i64 c, .int .i64 f]]) := by
  refine (all_c s hs w ht hm).mono ?_
  rintro e w' ⟨hB, h⟩
  refine ⟨hB, ?_⟩
  rcases h with ⟨y, h1, h2⟩ | ⟨h0, v, he, hown⟩
  · exact ⟨none, 0, 0, _, _, h2⟩
  · obtain ⟨o, cap, rfl⟩ := slice_ofX hown
    exact ⟨o, _, cap, 0, 0, he⟩
theorem lexTwo_long (A B : ByteArray) (h : 5000 < A.size ∨ 5000 < B.size) (w : World) : Calls Tryd.prog 6 #[.string A, .string B] w fun e w' => e = .returned (.bool true) ∧ Below w.heap.size w w' := by
  by_cases c : 5000 < A.size
  · have c' : (A.size : Int) > 5000 := by omega
    clear h
    go_enter Tryd.func6, Tryd.ntmps6
    go_wp2
    go_ret
    exact ⟨rfl, Below.refl _ _⟩
  · have c' : ¬ (A.size : Int) > 5000 := by omega
    have d' : (B.size : Int) > 5000 := by omega
    clear h
    go_enter Tryd.func6, Tryd.ntmps6
    go_wp2
    go_ret
    exact ⟨rfl, Below.refl _ _⟩
set_option maxRecDepth 100000 in
set_option maxHeartbeats 1000000 in
theorem lexTwo_first (A B : ByteArray) (hA : A.size ≤ 5000) (hB : B.size ≤ 5000) (c f : Int) (hc : c ≠ 0) (w : World) (ht : Tabs w) (hm : MarksIn w)
    (c1 : ∀ w, Tabs w → MarksIn w → Calls Tryd.prog 8 #[.string A] w fun e w' => Below w.heap.size w w' ∧ e = .returned (.tuple #[.slice none 0 0, .agg #[.int .i64 c, .int .i64 f]]))
    (c2 : ∀ w, Tabs w → MarksIn w → Calls Tryd.prog 8 #[.string B] w fun e w' => Below w.heap.size w w' ∧ ∃ o n cap c f, e = .returned (.tuple #[.slice o n cap, .agg #[.int .i64 c, .int .i64 f]]))
    (c3 : ∀ w, Tabs w → MarksIn w → Calls Tryd.prog 8 #[.string (A ++ ⟨#[10]⟩ ++ B)] w fun e w' => Below w.heap.size w w' ∧ ∃ o n cap c f, e = .returned (.tuple #[.slice o n cap, .agg #[.int .i64 c, .int .i64 f]])) :
    Calls Tryd.prog 6 #[.string A, .string B] w fun e w' => e = .returned (.bool true) ∧ Below w.heap.size w w' := by
  have c' : ¬ (A.size : Int) > 5000 := by omega
  have d' : ¬ (B.size : Int) > 5000 := by omega
  have hS := Sx.refl ht hm
  clear ht hm hA hB
  go_enter Tryd.func6, Tryd.ntmps6
  go_upto_region 4 with (go_at_call 8; (with_reducible refine (c1 _ hS.tabs hS.marks).mono ?_); rintro e wn ⟨hb, rfl⟩; (replace hS := hS.go hb); clear hb)
  have f1 := Blk.new wn #[Value.int .i64 c, Value.int .i64 f] 25
  replace hS := hS.alloc (Obj.cells #[Value.int .i64 c, Value.int .i64 f] 25)
  generalize World.alloc wn _ = W1 at *
  generalize wn.heap.size = b1 at *
  go_upto_region 5 with (go_at_call 8; (with_reducible refine (c2 _ hS.tabs hS.marks).mono ?_); rintro e wn ⟨hb, o2, n2, k2, e2, g2, rfl⟩; (replace hS := hS.go hb); (replace f1 := f1.go hb); clear hb)
  replace f1 := f1.alloc (Obj.cells #[Value.int .i64 e2, Value.int .i64 g2] 25)
  replace hS := hS.alloc (Obj.cells #[Value.int .i64 e2, Value.int .i64 g2] 25)
  generalize World.alloc wn _ = W2 at *
  generalize wn.heap.size = b2 at *
  go_upto_region 6 with (go_at_call 8; (with_reducible refine (c3 _ hS.tabs hS.marks).mono ?_); rintro e wn ⟨hb, o3, n3, k3, e3, g3, rfl⟩; (replace hS := hS.go hb); (replace f1 := f1.go hb); clear hb)
  replace f1 := f1.alloc (Obj.cells #[Value.int .i64 e3, Value.int .i64 g3] 25)
  replace hS := hS.alloc (Obj.cells #[Value.int .i64 e3, Value.int .i64 g3] 25)
  generalize World.alloc wn _ = W3 at *
  generalize wn.heap.size = b3 at *
  have q0 := f1.cells 0
  simp at q0
  clear c1 c2 c3
  go_wp2_with (go_at_call 11; refine (awake11_c _ hS.tabs hS.marks).mono ?_; rintro e wn ⟨rfl, hb⟩; (replace hS := hS.go hb); clear hb)
  go_ret
  exact ⟨rfl, hS.bel⟩
set_option maxRecDepth 100000 in
set_option maxHeartbeats 1000000 in
theorem lexTwo_second (A B : ByteArray) (hA : A.size ≤ 5000) (hB : B.size ≤ 5000) (c f : Int) (hc : c ≠ 0) (hf0 : 0 ≤ f) (hf1 : f ≤ 5000) (w : World) (ht : Tabs w) (hm : MarksIn w)
    (c1 : ∀ w, Tabs w → MarksIn w → Calls Tryd.prog 8 #[.string A] w fun e w' => Below w.heap.size w w' ∧ ∃ o n cap, e = .returned (.tuple #[.slice o n cap, .agg #[.int .i64 0, .int .i64 0]]))
    (c2 : ∀ w, Tabs w → MarksIn w → Calls Tryd.prog 8 #[.string B] w fun e w' => Below w.heap.size w w' ∧ e = .returned (.tuple #[.slice none 0 0, .agg #[.int .i64 c, .int .i64 f]]))
    (c3 : ∀ w, Tabs w → MarksIn w → Calls Tryd.prog 8 #[.string (A ++ ⟨#[10]⟩ ++ B)] w fun e w' => Below w.heap.size w w' ∧ e = .returned (.tuple #[.slice none 0 0, .agg #[.int .i64 c, .int .i64 (f + (A.size : Nat) + 1)]])) :
    Calls Tryd.prog 6 #[.string A, .string B] w fun e w' => e = .returned (.bool true) ∧ Below w.heap.size w w' := by
  have c' : ¬ (A.size : Int) > 5000 := by omega
  have d' : ¬ (B.size : Int) > 5000 := by omega
  have w1 : IntKind.i64.wrap (f + (A.size : Int)) = f + (A.size : Int) := by rw [IntKind.wrap_i64]; omega
  have w2 : IntKind.i64.wrap (f + (A.size : Int) + 1) = f + (A.size : Int) + 1 := by rw [IntKind.wrap_i64]; omega
  have hS := Sx.refl ht hm
  clear ht hm hA hB hf0 hf1
  go_enter Tryd.func6, Tryd.ntmps6
  go_upto_region 4 with (go_at_call 8; (with_reducible refine (c1 _ hS.tabs hS.marks).mono ?_); rintro e wn ⟨hb, o1, n1, k1, rfl⟩; (replace hS := hS.go hb); clear hb)
  have f1 := Blk.new wn #[Value.int .i64 0, Value.int .i64 0] 25
  replace hS := hS.alloc (Obj.cells #[Value.int .i64 0, Value.int .i64 0] 25)
  generalize World.alloc wn _ = W1 at *
  generalize wn.heap.size = b1 at *
  go_upto_region 5 with (go_at_call 8; (with_reducible refine (c2 _ hS.tabs hS.marks).mono ?_); rintro e wn ⟨hb, rfl⟩; (replace hS := hS.go hb); (replace f1 := f1.go hb); clear hb)
  have f2 := Blk.new wn #[Value.int .i64 c, Value.int .i64 f] 25
  replace f1 := f1.alloc (Obj.cells #[Value.int .i64 c, Value.int .i64 f] 25)
  replace hS := hS.alloc (Obj.cells #[Value.int .i64 c, Value.int .i64 f] 25)
  generalize World.alloc wn _ = W2 at *
  generalize wn.heap.size = b2 at *
  go_upto_region 6 with (go_at_call 8; (with_reducible refine (c3 _ hS.tabs hS.marks).mono ?_); rintro e wn ⟨hb, rfl⟩; (replace hS := hS.go hb); (replace f1 := f1.go hb); (replace f2 := f2.go hb); clear hb)
  have f3 := Blk.new wn #[Value.int .i64 c, Value.int .i64 (f + (A.size : Nat) + 1)] 25
  replace f1 := f1.alloc (Obj.cells #[Value.int .i64 c, Value.int .i64 (f + (A.size : Nat) + 1)] 25)
  replace f2 := f2.alloc (Obj.cells #[Value.int .i64 c, Value.int .i64 (f + (A.size : Nat) + 1)] 25)
  replace hS := hS.alloc (Obj.cells #[Value.int .i64 c, Value.int .i64 (f + (A.size : Nat) + 1)] 25)
  generalize World.alloc wn _ = W3 at *
  generalize wn.heap.size = b3 at *
  have q0 := f1.cells 0
  have q1 := f2.cells 0
  have q2 := f2.cells 1
  have q3 := f3.cells 0
  have q4 := f3.cells 1
  simp at q0 q1 q2 q3 q4
  clear c1 c2 c3
  go_wp2_with (go_at_call 11; refine (awake11_c _ hS.tabs hS.marks).mono ?_; rintro e wn ⟨rfl, hb⟩; (replace hS := hS.go hb); clear hb)
  go_ret
  exact ⟨rfl, hS.bel⟩
end Go.Proofs.YtfjkkndmngaaiaaDoor.W
/- LexTwo: the walk where both texts are well. -/
namespace Go.Proofs.YtfjkkndmngaaiaaDoor.W
open Go.ChangeShapes Go.WideShapes Go.RowKit Go.Shelf
set_option linter.unusedVariables false
theorem rows_at (L : List Yd) (k j : Nat) (hk : k < L.length) (hj : j < 5) : (rowsY L)[k * 5 + j]? = (cellsA L[k])[j]? := by
  induction L generalizing k with
  | nil => simp at hk
  | cons y L ih =>
    unfold rowsY at ih ⊢
    rw [List.flatMap_cons]
    cases k with
    | zero =>
      rw [List.getElem?_append_left (by simp [cellsA]; omega)]
      simp
    | succ k =>
      have h5 : (cellsA y).toList.length = 5 := rfl
      rw [List.getElem?_append_right (by rw [h5]; omega), h5]
      have := ih k (by simpa using hk)
      have e : (k + 1) * 5 + j - 5 = k * 5 + j := by omega
      rw [e, this]
      rfl
theorem TokRow.at {W : World} {B g cap : Nat} {L : List Yd} (h : TokRow W B g cap L) (k : Nat) (hk : k < L.length) : W.cell? ⟨g, k * 5, none⟩ = some (.int .i64 L[k].t.kind) ∧ W.cell? ⟨g, k * 5 + 1, none⟩ = some (.int .i64 L[k].a) ∧ W.cell? ⟨g, k * 5 + 2, none⟩ = some (.string L[k].t.text) ∧ W.cell? ⟨g, k * 5 + 3, none⟩ = some (.int .i64 L[k].t.int) ∧ W.cell? ⟨g, k * 5 + 4, none⟩ = some (.int .u64 L[k].t.bits) := by
  refine ⟨?_, ?_, ?_, ?_, ?_⟩
  · have := h.2.2.2 (k * 5) (by omega); rw [this]; have := rows_at L k 0 hk (by omega); exact this
  · have := h.2.2.2 (k * 5 + 1) (by omega); rw [this]; exact rows_at L k 1 hk (by omega)
  · have := h.2.2.2 (k * 5 + 2) (by omega); rw [this]; exact rows_at L k 2 hk (by omega)
  · have := h.2.2.2 (k * 5 + 3) (by omega); rw [this]; exact rows_at L k 3 hk (by omega)
  · have := h.2.2.2 (k * 5 + 4) (by omega); rw [this]; exact rows_at L k 4 hk (by omega)
theorem lt_ar (t n1 n2 n3 : Nat) (h1 : n1 = t + 1) (h3 : n3 = t + n2) (hl : n1 ≤ 6000) (hl2 : n2 ≤ 6000) : IntKind.i64.wrap ((n1 : Int) + (n2 : Int)) = (n1 : Int) + (n2 : Int) ∧ IntKind.i64.wrap ((n1 : Int) + (n2 : Int) - 1) = (n3 : Int) ∧ wrap64 ((n1 : Int) + (n2 : Int)) = (n1 : Int) + (n2 : Int) ∧ wrap64 ((n1 : Int) + (n2 : Int) - 1) = (n3 : Int) := by
  refine ⟨?_, ?_, ?_, ?_⟩
  · rw [IntKind.wrap_i64]; omega
  · rw [IntKind.wrap_i64]; omega
  · unfold wrap64; omega
  · unfold wrap64; omega
theorem lt_ar2 (t n1 j m s : Nat) (a : Int) (h1 : n1 = t + 1) (hm : t + j = m) (hs : s ≤ 5000) (hl : n1 ≤ 6000) (hj : j ≤ 6000) (a0 : 0 ≤ a) (a1 : a ≤ 6000) : IntKind.i64.wrap ((j : Int) + 1) = ((j + 1 : Nat) : Int) ∧ wrap64 ((j : Int) + 1) = ((j + 1 : Nat) : Int) ∧ IntKind.i64.wrap ((n1 : Int) - 1) = (t : Int) ∧ wrap64 ((n1 : Int) - 1) = (t : Int) ∧ IntKind.i64.wrap ((t : Int) + (j : Int)) = (m : Int) ∧ wrap64 ((t : Int) + (j : Int)) = (m : Int) ∧ IntKind.i64.wrap ((s : Int) + 1) = (s : Int) + 1 ∧ wrap64 ((s : Int) + 1) = (s : Int) + 1 ∧ IntKind.i64.wrap (a + ((s : Int) + 1)) = a + ((s : Int) + 1) ∧ wrap64 (a + ((s : Int) + 1)) = a + ((s : Int) + 1) := by
  refine ⟨?_, ?_, ?_, ?_, ?_, ?_, ?_, ?_, ?_, ?_⟩ <;> first | (rw [IntKind.wrap_i64]; omega) | (unfold wrap64; omega)
set_option maxRecDepth 100000 in
set_option maxHeartbeats 1000000 in
theorem lexTwo_good (A B : ByteArray) (hA : A.size ≤ 5000) (hB : B.size ≤ 5000) (tx X Y Z : List Yd) (n1 n2 n3 : Nat) (hn1 : X.length = n1) (hn2 : Y.length = n2) (hn3 : Z.length = n3) (h1 : n1 = tx.length + 1) (h3 : n3 = tx.length + n2) (hl : n1 ≤ 6000) (hl2 : n2 ≤ 6000)
    (hx : ∀ k (h : k < tx.length) (h1 : k < X.length) (h3 : k < Z.length), Z[k] = X[k])
    (hy : ∀ k (h2 : k < Y.length) (h3 : tx.length + k < Z.length), Z[tx.length + k].t = Y[k].t ∧ Z[tx.length + k].a = Y[k].a + ((A.size : Nat) + 1)) (hya : ∀ k (h2 : k < Y.length), 0 ≤ Y[k].a ∧ Y[k].a ≤ 6000) (w : World) (ht : Tabs w) (hm : MarksIn w)
    (c1 : ∀ w, Tabs w → MarksIn w → Calls Tryd.prog 8 #[.string A] w fun e w' => Below w.heap.size w w' ∧ ∃ g cap, e = .returned (.tuple #[.slice (some ⟨g, 0, none⟩) n1 cap, .agg #[.int .i64 0, .int .i64 0]]) ∧ TokRow w' w.heap.size g cap X)
    (c2 : ∀ w, Tabs w → MarksIn w → Calls Tryd.prog 8 #[.string B] w fun e w' => Below w.heap.size w w' ∧ ∃ g cap, e = .returned (.tuple #[.slice (some ⟨g, 0, none⟩) n2 cap, .agg #[.int .i64 0, .int .i64 0]]) ∧ TokRow w' w.heap.size g cap Y)
    (c3 : ∀ w, Tabs w → MarksIn w → Calls Tryd.prog 8 #[.string (A ++ ⟨#[10]⟩ ++ B)] w fun e w' => Below w.heap.size w w' ∧ ∃ g cap, e = .returned (.tuple #[.slice (some ⟨g, 0, none⟩) n3 cap, .agg #[.int .i64 0, .int .i64 0]]) ∧ TokRow w' w.heap.size g cap Z) :
    Calls Tryd.prog 6 #[.string A, .string B] w fun e w' => e = .returned (.bool true) ∧ Below w.heap.size w w' := by
  have c' : ¬ (A.size : Int) > 5000 := by omega
  have d' : ¬ (B.size : Int) > 5000 := by omega
  obtain ⟨v1, v2, v3, v4⟩ := lt_ar tx.length n1 n2 n3 h1 h3 hl hl2
  have hS := Sx.refl ht hm
  have HA := hid hA
  have HX := hid hx
  have HY := hid hy
  have HYA := hid hya
  have HN := hid (And.intro hn1 (And.intro hn2 (And.intro hn3 (And.intro h1 (And.intro h3 (And.intro hl hl2))))))
  clear ht hm hA hB hx hy hya hn1 hn2 hn3 h1 h3 hl hl2
  go_enter Tryd.func6, Tryd.ntmps6
  go_upto_region 4 with (go_at_call 8; (with_reducible refine (c1 _ hS.tabs hS.marks).mono ?_); rintro e wn ⟨hb, g1, k1, rfl, r1⟩; (replace hS := hS.go hb); clear hb)
  have f1 := Blk.new wn #[Value.int .i64 0, Value.int .i64 0] 25
  replace hS := hS.alloc (Obj.cells #[Value.int .i64 0, Value.int .i64 0] 25)
  replace r1 := r1.below ((Below.refl _ wn).alloc (Nat.le_refl _) (Obj.cells #[Value.int .i64 0, Value.int .i64 0] 25))
  generalize World.alloc wn _ = W1 at *
  generalize wn.heap.size = b1 at *
  go_upto_region 5 with (go_at_call 8; (with_reducible refine (c2 _ hS.tabs hS.marks).mono ?_); rintro e wn ⟨hb, g2, k2, rfl, r2⟩; (replace hS := hS.go hb); (replace f1 := f1.go hb); (replace r1 := r1.below hb); clear hb)
  have f2 := Blk.new wn #[Value.int .i64 0, Value.int .i64 0] 25
  replace f1 := f1.alloc (Obj.cells #[Value.int .i64 0, Value.int .i64 0] 25)
  replace hS := hS.alloc (Obj.cells #[Value.int .i64 0, Value.int .i64 0] 25)
  replace r1 := r1.below ((Below.refl _ wn).alloc (Nat.le_refl _) (Obj.cells #[Value.int .i64 0, Value.int .i64 0] 25))
  replace r2 := r2.below ((Below.refl _ wn).alloc (Nat.le_refl _) (Obj.cells #[Value.int .i64 0, Value.int .i64 0] 25))
  generalize World.alloc wn _ = W2 at *
  generalize wn.heap.size = b2 at *
  go_upto_region 6 with (go_at_call 8; (with_reducible refine (c3 _ hS.tabs hS.marks).mono ?_); rintro e wn ⟨hb, g3, k3, rfl, r3⟩; (replace hS := hS.go hb); (replace f1 := f1.go hb); (replace f2 := f2.go hb); (replace r1 := r1.below hb); (replace r2 := r2.below hb); clear hb)
  have f3 := Blk.new wn #[Value.int .i64 0, Value.int .i64 0] 25
  replace f1 := f1.alloc (Obj.cells #[Value.int .i64 0, Value.int .i64 0] 25)
  replace f2 := f2.alloc (Obj.cells #[Value.int .i64 0, Value.int .i64 0] 25)
  replace hS := hS.alloc (Obj.cells #[Value.int .i64 0, Value.int .i64 0] 25)
  replace r1 := r1.below ((Below.refl _ wn).alloc (Nat.le_refl _) (Obj.cells #[Value.int .i64 0, Value.int .i64 0] 25))
  replace r2 := r2.below ((Below.refl _ wn).alloc (Nat.le_refl _) (Obj.cells #[Value.int .i64 0, Value.int .i64 0] 25))
  replace r3 := r3.below ((Below.refl _ wn).alloc (Nat.le_refl _) (Obj.cells #[Value.int .i64 0, Value.int .i64 0] 25))
  generalize World.alloc wn _ = W3 at *
  generalize wn.heap.size = b3 at *
  have q0 := f1.cells 0
  have q1 := f2.cells 0
  have q3 := f3.cells 0
  simp at q0 q1 q3
  have R1 := hid r1
  have R2 := hid r2
  have R3 := hid r3
  have HS := hid hS
  clear c1 c2 c3 r1 r2 r3 f1 f2 f3 hS
  go_wp2_with fail
  clear q0 q1 q3 v1 v2 v3 v4 c' d'
  go_loopw [11] (fun i wr => ∃ k : Nat, i = .int .i64 k ∧ k ≤ tx.length ∧ Below W3.heap.size W3 wr) (fun i _ => tx.length - (intOf i).toNat)
  case atStart => exact ⟨0, rfl, by omega, Below.refl _ _⟩
  case round =>
    obtain ⟨k, rfl, hk, hB⟩ := hrel
    obtain ⟨hn1, hn2, hn3, h1, h3, hl, hl2⟩ := HN.out
    have s1 := R1.out.below hB
    have s3 := R3.out.below hB
    have vk : IntKind.i64.wrap ((k : Int) + 1) = ((k + 1 : Nat) : Int) := by rw [IntKind.wrap_i64]; omega
    have vk2 : wrap64 ((k : Int) + 1) = ((k + 1 : Nat) : Int) := by unfold wrap64; omega
    by_cases c : k < tx.length
    · have kx : k < X.length := by omega
      have kz : k < Z.length := by omega
      obtain ⟨a0, a1, a2, a3, a4⟩ := s1.at k kx
      obtain ⟨e0, e1, e2, e3, e4⟩ := s3.at k kz
      rw [HX.out k c kx kz] at e0 e1 e2 e3 e4
      generalize X[k] = y at *
      have l1 : ((k + 1 : Nat) : Int) < (n1 : Int) := by omega
      have l2 : (k : Int) < (n1 : Int) := by omega
      have l3 : (k : Int) < (n3 : Int) := by omega
      have l0 : (0 : Int) ≤ (k : Int) := by omega
      have HB := hid hB
      have HK := hid hk
      have HC := hid c
      have HV := hid vk2
      clear s1 s3 hn1 hn2 hn3 h1 h3 hl hl2 hB hk c kx kz
      go_upto_region 15 with fail
      have inst : Nonempty (BW wr) := ⟨⟨_, Below.refl _ _⟩⟩
      have x0 := BW.cell a0
      have x1 := BW.cell a1
      have x2 := BW.cell a2
      have x3 := BW.cell a3
      have x4 := BW.cell a4
      have z0 := BW.cell e0
      have z1 := BW.cell e1
      have z2 := BW.cell e2
      have z3 := BW.cell e3
      have z4 := BW.cell e4
      clear a0 a1 a2 a3 a4 e0 e1 e2 e3 e4
      refine wp_region_quiet_below (by kernel_rfl) (by kernel_rfl) ?_
      repeat (go_big_quiet_step (fail))
      refine wpQuiet_nil ?_
      intro _ hw'
      obtain ⟨pw, hw''⟩ := hw'
      subst hw''
      clear x0 x1 x2 x3 x4 z0 z1 z2 z3 z4 l0 l1 l2 l3
      go_wp2
      go_roundw
      case rel => exact ⟨k + 1, by go_num, HC.out, HB.out.trans (pw.h.mono HB.out.size)⟩
      case measure => have := HC.out; simp [intOf]; omega
    · have ek : k = tx.length := by omega
      have l1 : ¬ ((k + 1 : Nat) : Int) < (n1 : Int) := by omega
      have HB := hid hB
      have HK := hid ek
      have HS2 := hid (HS.out.go hB)
      have P2 := hid (R2.out.below hB)
      have P3 := hid s3
      clear s1 s3 hn1 hn2 hn3 h1 h3 hl hl2 hB hk c R1 R2 R3 HS HX ek
      go_wp2_with fail
      clear l1 vk vk2
      go_loopw [12] (fun i wq => ∃ j : Nat, i = .int .i64 j ∧ j ≤ n2 ∧ Below wr.heap.size wr wq) (fun i _ => n2 - (intOf i).toNat)
      case atStart => exact ⟨0, rfl, by omega, Below.refl _ _⟩
      case round =>
        obtain ⟨j, rfl, hj, hBq⟩ := hrel
        have s2 := P2.out.below hBq
        have s3 := P3.out.below hBq
        by_cases c : j < n2
        · obtain ⟨hn1, hn2, hn3, h1, h3, hl, hl2⟩ := HN.out
          have jy : j < Y.length := by omega
          have jz : tx.length + j < Z.length := by omega
          obtain ⟨a0, a1, a2, a3, a4⟩ := s2.at j jy
          obtain ⟨e0, e1, e2, e3, e4⟩ := s3.at (tx.length + j) jz
          have ya := HYA.out j jy
          obtain ⟨et, ea⟩ := HY.out j jy jz
          rw [et] at e0 e2 e3 e4
          rw [ea] at e1
          clear et ea
          generalize Y[j] = y at *
          have l2 : (j : Int) < (n2 : Int) := by omega
          have l0 : (0 : Int) ≤ (j : Int) := by omega
          obtain ⟨m, hm⟩ : ∃ m, tx.length + j = m := ⟨_, rfl⟩
          rw [hm] at e0 e1 e2 e3 e4
          have l3 : (m : Int) < (n3 : Int) := by omega
          have l4 : (0 : Int) ≤ (m : Int) := by omega
          obtain ⟨o1, o2, o3, o4, o5, o6, o7, o8, o9, o10⟩ := lt_ar2 tx.length n1 j m A.size y.a h1 hm HA.out hl (by omega) ya.1 ya.2
          have HBq := hid hBq
          have HC := hid c
          have S3 := hid s3
          clear s2 s3 hn1 hn2 hn3 h1 h3 hl hl2 hBq hj c jy jz ya hm
          go_upto_region 22 with fail
          have f6 := Blk.new wr #[Value.int .i64 y.t.kind, Value.int .i64 (y.a + ((A.size : Int) + 1)), Value.string y.t.text, Value.int .i64 y.t.int, Value.int .u64 y.t.bits] 30
          have hB6 : Below wr.heap.size wr (wr.alloc (Obj.cells #[Value.int .i64 y.t.kind, Value.int .i64 (y.a + ((A.size : Int) + 1)), Value.string y.t.text, Value.int .i64 y.t.int, Value.int .u64 y.t.bits] 30)) := (Below.refl _ wr).alloc (Nat.le_refl _) _
          generalize World.alloc wr _ = W6 at *
          have HB6 := hid (HBq.out.trans (hB6.mono HBq.out.size))
          have p0 := (hB6.cell (p := ⟨g3, m * 5, none⟩) S3.out.2.1).trans e0
          have p1 := (hB6.cell (p := ⟨g3, m * 5 + 1, none⟩) S3.out.2.1).trans e1
          have p2 := (hB6.cell (p := ⟨g3, m * 5 + 2, none⟩) S3.out.2.1).trans e2
          have p3 := (hB6.cell (p := ⟨g3, m * 5 + 3, none⟩) S3.out.2.1).trans e3
          have p4 := (hB6.cell (p := ⟨g3, m * 5 + 4, none⟩) S3.out.2.1).trans e4
          generalize wr.heap.size = b6 at *
          have inst : Nonempty (BW W6) := ⟨⟨_, Below.refl _ _⟩⟩
          have x0 := BW.cell (show W6.cell? ⟨b6, 0, none⟩ = some (.int .i64 y.t.kind) from f6.cells 0)
          have x1 := BW.cell (show W6.cell? ⟨b6, 1, none⟩ = some (.int .i64 (y.a + ((A.size : Int) + 1))) from f6.cells 1)
          have x2 := BW.cell (show W6.cell? ⟨b6, 2, none⟩ = some (.string y.t.text) from f6.cells 2)
          have x3 := BW.cell (show W6.cell? ⟨b6, 3, none⟩ = some (.int .i64 y.t.int) from f6.cells 3)
          have x4 := BW.cell (show W6.cell? ⟨b6, 4, none⟩ = some (.int .u64 y.t.bits) from f6.cells 4)
          have z0 := BW.cell p0
          have z1 := BW.cell p1
          have z2 := BW.cell p2
          have z3 := BW.cell p3
          have z4 := BW.cell p4
          clear p0 p1 p2 p3 p4 a0 a1 a2 a3 a4 e0 e1 e2 e3 e4 f6 hB6
          refine wp_region_quiet_below (by kernel_rfl) (by kernel_rfl) ?_
          repeat (go_big_quiet_step (fail))
          refine wpQuiet_nil ?_
          intro _ hw'
          obtain ⟨pw, hw''⟩ := hw'
          subst hw''
          clear x0 x1 x2 x3 x4 z0 z1 z2 z3 z4 l0 l2 l3 l4
          go_wp2
          go_roundw
          case rel => exact ⟨j + 1, by go_num, HC.out, HB6.out.trans (pw.h.mono HB6.out.size)⟩
          case measure => have := HC.out; simp [intOf]; omega
        · have l2 : ¬ (j : Int) < (n2 : Int) := by omega
          have hS := HS2.out.go hBq
          clear s2 s3 hBq hj c
          go_wp2_with (go_at_call 11; refine (awake11_c _ hS.tabs hS.marks).mono ?_; rintro e wn ⟨rfl, hb⟩; (replace hS := hS.go hb); clear hb)
          go_ret
          exact ⟨rfl, hS.bel⟩
end Go.Proofs.YtfjkkndmngaaiaaDoor.W
/- LexBlanks: the walk where the text is too long or has a fault. -/
namespace Go.Proofs.YtfjkkndmngaaiaaDoor.W
open Go.ChangeShapes Go.WideShapes Go.RowKit Go.Shelf
set_option linter.unusedVariables false
/-- a slice of integers that came in -/
def IsRow (k : IntKind) (w : World) (a : Option Addr) (len cap : Nat) (zs : List Int) : Prop :=
  (a = none ∧ len = 0 ∧ cap = 0 ∧ zs = []) ∨
  ∃ x, a = some x ∧ len ≤ cap ∧ cap ≤ maxLen ∧ zs.length = cap ∧ (∀ i, i < zs.length → w.cell? (x.add i) = some (.int k (zs.getD i 0))) ∧ ∀ n ∈ zs, (Lit.int k n).wf = true
set_option maxRecDepth 100000 in
theorem lexBlanks_long (A : ByteArray) (h : 5000 < A.size) (o : Option Addr) (n cap : Nat) (w : World) : Calls Tryd.prog 5 #[.string A, .slice o n cap] w fun e w' => e = .returned (.bool true) ∧ Below w.heap.size w w' := by
  have c' : (A.size : Int) > 5000 := by omega
  clear h
  go_enter Tryd.func5, Tryd.ntmps5
  go_wp2
  go_ret
  exact ⟨rfl, Below.refl _ _⟩
set_option maxRecDepth 100000 in
set_option maxHeartbeats 1000000 in
theorem lexBlanks_bad (A : ByteArray) (hA : A.size ≤ 5000) (o : Option Addr) (n cap : Nat) (c f : Int) (hc : c ≠ 0) (w : World) (ht : Tabs w) (hm : MarksIn w)
    (c1 : ∀ w, Tabs w → MarksIn w → Calls Tryd.prog 8 #[.string A] w fun e w' => Below w.heap.size w w' ∧ e = .returned (.tuple #[.slice none 0 0, .agg #[.int .i64 c, .int .i64 f]])) :
    Calls Tryd.prog 5 #[.string A, .slice o n cap] w fun e w' => e = .returned (.bool true) ∧ Below w.heap.size w w' := by
  have c' : ¬ (A.size : Int) > 5000 := by omega
  have hS := Sx.refl ht hm
  clear ht hm hA
  go_enter Tryd.func5, Tryd.ntmps5
  go_upto_region 4 with (go_at_call 8; (with_reducible refine (c1 _ hS.tabs hS.marks).mono ?_); rintro e wn ⟨hb, rfl⟩; (replace hS := hS.go hb); clear hb)
  have f1 := Blk.new wn #[Value.int .i64 c, Value.int .i64 f] 25
  replace hS := hS.alloc (Obj.cells #[Value.int .i64 c, Value.int .i64 f] 25)
  generalize World.alloc wn _ = W1 at *
  generalize wn.heap.size = b1 at *
  have q0 := f1.cells 0
  simp at q0
  clear c1
  go_wp2_with (go_at_call 11; refine (awake11_c _ hS.tabs hS.marks).mono ?_; rintro e wn ⟨rfl, hb⟩; (replace hS := hS.go hb); clear hb)
  go_ret
  exact ⟨rfl, hS.bel⟩
end Go.Proofs.YtfjkkndmngaaiaaDoor.W
/- LexBlanks: the walk where the text is well. -/
namespace Go.Proofs.YtfjkkndmngaaiaaDoor.W
open Go.ChangeShapes Go.WideShapes Go.RowKit Go.Shelf
set_option linter.unusedVariables false
set_option linter.unusedSimpArgs false
theorem lb_ar (m n1 : Nat) (h : n1 = m + 1) (hm : m ≤ 5001) : IntKind.i64.wrap ((n1 : Int) - 1) = (m : Int) ∧ wrap64 ((n1 : Int) - 1) = (m : Int) := by
  refine ⟨?_, ?_⟩
  · rw [IntKind.wrap_i64]; omega
  · unfold wrap64; omega
theorem lb_ar1 (k : Nat) (h : k ≤ 5001) : IntKind.i64.wrap ((k : Int) + 1) = ((k + 1 : Nat) : Int) ∧ wrap64 ((k : Int) + 1) = ((k + 1 : Nat) : Int) := by
  refine ⟨?_, ?_⟩
  · rw [IntKind.wrap_i64]; omega
  · unfold wrap64; omega
theorem lb_ar2 (p q s : Nat) (h : p ≤ q) (h2 : q ≤ s) (h3 : s ≤ 5000) : IntKind.i64.wrap ((q : Int) - (p : Int)) = ((q - p : Nat) : Int) ∧ wrap64 ((q : Int) - (p : Int)) = ((q - p : Nat) : Int) := by
  refine ⟨?_, ?_⟩
  · rw [IntKind.wrap_i64]; omega
  · unfold wrap64; omega
/-- what a blank's number says -/
def ksOf (zs : List Int) (n i : Nat) : Nat := if i < n then (bits .and .i64 (zs.getD i 0) 3).toNat else 0
theorem ext_seg (A : ByteArray) (Ys : List Yd) (k : Nat) : (A.extract (pl Ys k) (pl Ys (k + 1))).data.toList = seg A.data.toList Ys k := by
  unfold seg
  simp [List.drop_take]
set_option maxRecDepth 100000 in
set_option maxHeartbeats 1000000 in
theorem lexBlanks_good (A : ByteArray) (hA : A.size ≤ 5000) (o : Option Addr) (n cap : Nat) (zs : List Int) (Ys L : List Yd) (m n1 : Nat) (hn1 : n1 = m + 1) (hY1 : Ys.length = n1) (hm0 : m ≤ 5001) (hL1 : L.length = n1)
    (hend : ∀ (h : m < Ys.length), Ys[m].t.kind = 7) (hpl : ∀ k (h : k < Ys.length), Ys[k].a = ((pl Ys k : Nat) : Int)) (hup : ∀ k, k + 1 < Ys.length → pl Ys k < pl Ys (k + 1)) (hle : ∀ k, k < Ys.length → pl Ys k ≤ A.size)
    (hsame : ∀ k (h : k < Ys.length) (h2 : k < L.length), L[k].t = Ys[k].t ∧ ((pl Ys k - pl Ys 0 : Nat) : Int) ≤ L[k].a) (hge : ∀ k, k < Ys.length → pl Ys 0 ≤ pl Ys k) (w : World) (hrow : IsRow .i64 w o n cap zs) (ht : Tabs w) (hm : MarksIn w)
    (c1 : ∀ w, Tabs w → MarksIn w → Calls Tryd.prog 8 #[.string A] w fun e w' => Below w.heap.size w w' ∧ ∃ g cap, e = .returned (.tuple #[.slice (some ⟨g, 0, none⟩) n1 cap, .agg #[.int .i64 0, .int .i64 0]]) ∧ TokRow w' w.heap.size g cap Ys)
    (c2 : ∀ V : ByteArray, V.data.toList = wf (Sx' A.data.toList Ys (ksOf zs n)) m 0 → 65536 < V.size → ∀ w, Tabs w → MarksIn w → Calls Tryd.prog 8 #[.string V] w fun e w' => Below w.heap.size w w' ∧ e = .returned (.tuple #[.slice none 0 0, .agg #[.int .i64 2, .int .i64 0]]))
    (c3 : ∀ V : ByteArray, V.data.toList = wf (Sx' A.data.toList Ys (ksOf zs n)) m 0 → ¬ 65536 < V.size → ∀ w, Tabs w → MarksIn w → Calls Tryd.prog 8 #[.string V] w fun e w' => Below w.heap.size w w' ∧ ∃ g cap, e = .returned (.tuple #[.slice (some ⟨g, 0, none⟩) n1 cap, .agg #[.int .i64 0, .int .i64 0]]) ∧ TokRow w' w.heap.size g cap L) :
    Calls Tryd.prog 5 #[.string A, .slice o n cap] w fun e w' => e = .returned (.bool true) ∧ Below w.heap.size w w' := by
  have c' : ¬ (A.size : Int) > 5000 := by omega
  obtain ⟨v1, v2⟩ := lb_ar m n1 hn1 hm0
  have hS := Sx.refl ht hm
  have m1 : (m : Int) < (n1 : Int) := by omega
  have m2 : (0 : Int) ≤ (m : Int) := by omega
  have m3 : ¬ n1 = 0 := by omega
  have m4 : ¬ (n1 : Int) = 0 := by omega
  have HN := hid (And.intro hn1 (And.intro hY1 (And.intro hm0 hL1)))
  have HA := hid hA
  have HPL := hid hpl
  have HUP := hid hup
  have HLE := hid hle
  have HSA := hid hsame
  have HGE := hid hge
  have HR := hid hrow
  have C2 := hid c2
  have C3 := hid c3
  have HMY : m < Ys.length := by omega
  have HE := hid (hend HMY)
  clear ht hm hA hn1 hY1 hm0 hL1 hpl hup hle hsame hge hrow c2 c3 hend
  go_enter Tryd.func5, Tryd.ntmps5
  go_upto_region 4 with (go_at_call 8; (with_reducible refine (c1 _ hS.tabs hS.marks).mono ?_); rintro e wn ⟨hb, g1, k1, rfl, r1⟩; (replace hS := hS.go hb); clear hb)
  have f1 := Blk.new wn #[Value.int .i64 0, Value.int .i64 0] 25
  replace hS := hS.alloc (Obj.cells #[Value.int .i64 0, Value.int .i64 0] 25)
  replace r1 := r1.below ((Below.refl _ wn).alloc (Nat.le_refl _) (Obj.cells #[Value.int .i64 0, Value.int .i64 0] 25))
  generalize World.alloc wn _ = W1 at *
  generalize wn.heap.size = b1 at *
  have q0 := f1.cells 0
  simp at q0
  have e7 : W1.cell? ⟨g1, m * 5, none⟩ = some (.int .i64 7) := by
    have := (r1.at m HMY).1
    rw [this, HE.out]
  have R1 := hid r1
  have HS := hid hS
  clear c1 r1 f1 hS HE HMY
  go_wp2_with fail
  clear q0 e7 v1 v2 c' m1 m2 m3 m4
  go_loopw [7, 8] (fun s i wr => ∃ (k : Nat) (V : ByteArray), s = .string V ∧ i = .int .i64 k ∧ k ≤ m ∧ V.data.toList = wf (Sx' A.data.toList Ys (ksOf zs n)) k 0 ∧ V.size ≤ 6000 * k ∧ Below W1.heap.size W1 wr) (fun _ i _ => m - (intOf i).toNat)
  case atStart => exact ⟨0, ⟨#[]⟩, rfl, rfl, by omega, rfl, by decide, Below.refl _ _⟩
  case round =>
    obtain ⟨k, V, rfl, rfl, hk, hV, hVs, hB⟩ := hrel
    obtain ⟨hn1, hY1, hm0, hL1⟩ := HN.out
    have s1 := R1.out.below hB
    obtain ⟨vk, vk2⟩ := lb_ar1 k (by omega)
    by_cases c : k < m
    · have x1 := (s1.at k (by omega)).2.1
      have x2 := (s1.at (k + 1) (by omega)).2.1
      rw [HPL.out k (by omega)] at x1
      rw [HPL.out (k + 1) (by omega)] at x2
      have u1 := HUP.out k (by omega)
      have u2 := HLE.out (k + 1) (by omega)
      have xs := ext_seg A Ys k
      have hw : wf (Sx' A.data.toList Ys (ksOf zs n)) (k + 1) 0 = wf (Sx' A.data.toList Ys (ksOf zs n)) k 0 ++ (seg A.data.toList Ys k ++ insL (ksOf zs n k)) := by
        rw [wf_snoc]
        show _ ++ Sx' _ _ _ (0 + k) = _
        rw [Nat.zero_add]
        rfl
      rw [← hV, ← xs] at hw
      generalize pl Ys k = p at *
      generalize pl Ys (k + 1) = q at *
      have l1 : ((k + 1 : Nat) : Int) < (n1 : Int) := by omega
      have l2 : (k : Int) < (n1 : Int) := by omega
      have l0 : (0 : Int) ≤ (k : Int) := by omega
      have l3 : (0 : Int) ≤ ((k + 1 : Nat) : Int) := by omega
      have l4 : ¬ (p : Int) ≥ (q : Int) := by omega
      have l5 : ¬ (q : Int) > (A.size : Int) := by omega
      have l6 : (0 : Int) ≤ (p : Int) := by omega
      have l7 : (p : Int) ≤ (q : Int) := by omega
      have l8 : (q : Int) ≤ (A.size : Int) := by omega
      have es : (A.extract p q).size = q - p := by simp; omega
      have hA := HA.out
      have E2 := hid (And.intro (show (V ++ A.extract p q).size ≤ 6000 * k + 5000 by rw [ByteArray.size_append, es]; omega) (show (V ++ A.extract p q).data.toList = V.data.toList ++ (A.extract p q).data.toList by simp))
      have z1 : ¬ 9223372036854775807 < V.size + (A.extract p q).size := by rw [es]; omega
      have z2 : ¬ 9223372036854775807 < V.size + (min q A.size - p) := by omega
      have z3 : V.size + (A.extract p q).size ≤ 9223372036854775807 := by rw [es]; omega
      have z4 : V.size + (min q A.size - p) ≤ 9223372036854775807 := by omega
      have HB := hid hB
      have HC := hid c
      have HW := hid hw
      have HK := hid (And.intro hm0 hVs)
      clear s1 hn1 hY1 hm0 hL1 hB hk c u1 u2 xs hw hV hVs es hA
      go_upto_region 12 with fail
      have inst : Nonempty (BW wr) := ⟨⟨_, Below.refl _ _⟩⟩
      have y1 := BW.cell x1
      have y2 := BW.cell x2
      refine wp_region_quiet_below (by kernel_rfl) (by kernel_rfl) ?_
      repeat (go_big_quiet_step (fail))
      refine wpQuiet_nil ?_
      intro _ hw'
      obtain ⟨pw, hw''⟩ := hw'
      subst hw''
      clear inst
      replace x1 := y1 pw
      replace x2 := y2 pw
      replace HB := hid (HB.out.trans (pw.h.mono HB.out.size))
      clear y1 y2
      generalize pw.w' = Wp at *
      clear pw
      go_upto_region 14 with fail
      have inst : Nonempty (BW Wp) := ⟨⟨_, Below.refl _ _⟩⟩
      have y1 := BW.cell x1
      have y2 := BW.cell x2
      refine wp_region_quiet_below (by kernel_rfl) (by kernel_rfl) ?_
      repeat (go_big_quiet_step (fail))
      refine wpQuiet_nil ?_
      intro _ hw'
      obtain ⟨pw, hw''⟩ := hw'
      subst hw''
      clear inst y1 y2 x1 x2 z1 z2 z3 z4
      replace HB := hid (HB.out.trans (pw.h.mono HB.out.size))
      generalize pw.w' = Wq at *
      clear pw
      generalize A.extract p q = E at *
      obtain ⟨V2, hV2⟩ : ∃ V2, V ++ E = V2 := ⟨_, rfl⟩
      rw [hV2] at E2 ⊢
      obtain ⟨hs2, hd2⟩ := E2.out
      have HS2 := hid hs2
      have HW2 := hid (show wf (Sx' A.data.toList Ys (ksOf zs n)) (k + 1) 0 = V2.data.toList ++ insL (ksOf zs n k) by rw [HW.out, hd2, List.append_assoc])
      have z1 : ∀ j, j ≤ 14 → ¬ 9223372036854775807 < V2.size + j := fun j hj => by have := HK.out.1; have := HC.out; omega
      have z5 := z1 1 (by omega)
      have z6 := z1 14 (by omega)
      have z7 := z1 3 (by omega)
      clear hs2 hd2 HW E2 hV2 z1
      have fin : ∀ (kk : Nat) (V3 : ByteArray), ksOf zs n k = kk → V3.data.toList = V2.data.toList ++ insL kk → V3.size ≤ V2.size + 14 → V3.data.toList = wf (Sx' A.data.toList Ys (ksOf zs n)) (k + 1) 0 ∧ V3.size ≤ 6000 * (k + 1) := fun kk V3 e1 e2 e3 => ⟨by rw [HW2.out, e1, e2], by have := HS2.out; omega⟩
      have FIN := hid fin
      clear fin
      by_cases cn : k < n
      · have d1 : (k : Int) < (n : Int) := by omega
        rcases HR.out with ⟨_, rfl, _, _⟩ | ⟨x, rfl, r1, r2, r3, r4, r5⟩
        · omega
        have hcx := r4 k (by omega)
        have hBw := HS.out.bel.trans (HB.out.mono HS.out.bel.size)
        have hlt : (x.add k).block < w.heap.size := World.block_lt_of_cell? w _ hcx
        replace hcx := (hBw.cell (p := x.add k) hlt).trans hcx
        have hks : ksOf zs n k = (bits .and .i64 (zs.getD k 0) 3).toNat := if_pos cn
        generalize zs.getD k 0 = z at *
        have HKS := hid hks
        clear r1 r2 r3 r4 r5 hBw hlt hks cn
        by_cases b1 : bits .and .i64 z 3 = 1
        · have FI := hid (FIN.out 1 (V2 ++ ⟨#[10]⟩) (by rw [HKS.out, b1]; rfl) (by rw [insL_one]; simp) (by rw [ByteArray.size_append]; show V2.size + 1 ≤ _; omega))
          go_wp2
          exact ⟨⟨k + 1, _, rfl, by go_num, by have := HC.out; omega, FI.out.1, FI.out.2, HB.out⟩, by have := HC.out; simp [intOf]; omega⟩
        · by_cases b2 : bits .and .i64 z 3 = 2
          · have FI := hid (FIN.out 2 (V2 ++ ⟨#[10, 35, 32, 34, 123, 32, 114, 101, 109, 97, 114, 107, 10, 9]⟩) (by rw [HKS.out, b2]; rfl) (by rw [insL_two]; simp) (by rw [ByteArray.size_append]; show V2.size + 14 ≤ _; omega))
            clear b1
            go_wp2
            exact ⟨⟨k + 1, _, rfl, by go_num, by have := HC.out; omega, FI.out.1, FI.out.2, HB.out⟩, by have := HC.out; simp [intOf]; omega⟩
          · by_cases b3 : bits .and .i64 z 3 = 3
            · have FI := hid (FIN.out 3 (V2 ++ ⟨#[10, 32, 32]⟩) (by rw [HKS.out, b3]; rfl) (by rw [insL_three]; simp) (by rw [ByteArray.size_append]; show V2.size + 3 ≤ _; omega))
              clear b1 b2
              go_wp2
              exact ⟨⟨k + 1, _, rfl, by go_num, by have := HC.out; omega, FI.out.1, FI.out.2, HB.out⟩, by have := HC.out; simp [intOf]; omega⟩
            · have FI := hid (FIN.out _ V2 HKS.out (by rw [insL_none _ (by omega) (by omega) (by omega), List.append_nil]) (by omega))
              go_wp2
              exact ⟨⟨k + 1, _, rfl, by go_num, by have := HC.out; omega, FI.out.1, FI.out.2, HB.out⟩, by have := HC.out; simp [intOf]; omega⟩
      · have d1 : ¬ (k : Int) < (n : Int) := by omega
        have FI := hid (FIN.out 0 V2 (if_neg cn) (by show _ = _ ++ []; rw [List.append_nil]) (by omega))
        clear cn
        go_wp2
        exact ⟨⟨k + 1, _, rfl, by go_num, by have := HC.out; omega, FI.out.1, FI.out.2, HB.out⟩, by have := HC.out; simp [intOf]; omega⟩
    · have ek : k = m := by omega
      subst ek
      have l1 : ¬ ((k + 1 : Nat) : Int) < (n1 : Int) := by omega
      have hS := HS.out.go hB
      have r1 := R1.out.below hB
      by_cases big : 65536 < V.size
      · have cb := C2.out V hV big
        have g1 : (V.size : Int) > 65536 := by omega
        clear hV hB hk s1 hVs c hn1 hY1 hm0 hL1 C2 C3 HR
        go_upto_region 24 with (go_at_call 8; (with_reducible refine (cb _ hS.tabs hS.marks).mono ?_); rintro e wn ⟨hb, rfl⟩; (replace hS := hS.go hb); clear hb)
        have f1 := Blk.new wn #[Value.int .i64 2, Value.int .i64 0] 25
        replace hS := hS.alloc (Obj.cells #[Value.int .i64 2, Value.int .i64 0] 25)
        generalize World.alloc wn _ = W4 at *
        generalize wn.heap.size = b4 at *
        have q0 := f1.cells 0
        simp at q0
        clear cb
        go_wp2
        go_ret
        exact ⟨rfl, hS.bel⟩
      · have cg := C3.out V hV big
        clear hV hB hk s1 hVs c hn1 hY1 hm0 hL1 C2 C3 HR big
        go_upto_region 24 with (go_at_call 8; (with_reducible refine (cg _ hS.tabs hS.marks).mono ?_); rintro e wn ⟨hb, g2, k2, rfl, r2⟩; (replace hS := hS.go hb); (replace r1 := r1.below hb); clear hb)
        have f1 := Blk.new wn #[Value.int .i64 0, Value.int .i64 0] 25
        replace hS := hS.alloc (Obj.cells #[Value.int .i64 0, Value.int .i64 0] 25)
        replace r1 := r1.below ((Below.refl _ wn).alloc (Nat.le_refl _) (Obj.cells #[Value.int .i64 0, Value.int .i64 0] 25))
        replace r2 := r2.below ((Below.refl _ wn).alloc (Nat.le_refl _) (Obj.cells #[Value.int .i64 0, Value.int .i64 0] 25))
        generalize World.alloc wn _ = W4 at *
        generalize wn.heap.size = b4 at *
        have q0 := f1.cells 0
        simp at q0
        have HS4 := hid hS
        have P1 := hid r1
        have P2 := hid r2
        clear cg hS r1 r2 f1 l1
        go_wp2_with fail
        clear q0 vk vk2
        go_loopw [11] (fun i wq => ∃ j : Nat, i = .int .i64 j ∧ j ≤ n1 ∧ Below W4.heap.size W4 wq) (fun i _ => n1 - (intOf i).toNat)
        case atStart => exact ⟨0, rfl, by omega, Below.refl _ _⟩
        case round =>
          obtain ⟨j, rfl, hj, hBq⟩ := hrel
          obtain ⟨hn1, hY1, hm0, hL1⟩ := HN.out
          have s1 := P1.out.below hBq
          have s2 := P2.out.below hBq
          by_cases c : j < n1
          · have jY : j < Ys.length := by omega
            have jL : j < L.length := by omega
            obtain ⟨a0, a1, a2, a3, a4⟩ := s1.at j jY
            obtain ⟨e0, e1, e2, e3, e4⟩ := s2.at j jL
            have z0 := (s1.at 0 (by omega)).2.1
            obtain ⟨st, sa⟩ := HSA.out j jY jL
            rw [st] at e0 e2 e3 e4
            rw [HPL.out j jY] at a1
            rw [HPL.out 0 (by omega)] at z0
            have ge := HGE.out j jY
            have hle := HLE.out j jY
            have hA := HA.out
            obtain ⟨vd, vd2⟩ := lb_ar2 (pl Ys 0) (pl Ys j) A.size ge hle hA
            obtain ⟨vj, vj2⟩ := lb_ar1 j (by omega)
            have nl : ¬ L[j].a < ((pl Ys j - pl Ys 0 : Nat) : Int) := by omega
            generalize L[j].a = bA at *
            generalize Ys[j].t = y at *
            generalize pl Ys j = pj at *
            generalize pl Ys 0 = p0 at *
            generalize hD : pj - p0 = D at *
            have l2 : (j : Int) < (n1 : Int) := by omega
            have l0 : (0 : Int) ≤ (j : Int) := by omega
            have l3 : (0 : Int) < (n1 : Int) := by omega
            have g1l := s1.2.1
            have g2l := s2.2.1
            have HBq := hid hBq
            have HC := hid c
            clear s1 s2 hBq hj c hn1 hY1 hm0 hL1 jY jL st sa ge hle hA hD
            have AA := hid (And.intro a0 (And.intro a1 (And.intro a2 (And.intro a3 a4))))
            have EE := hid (And.intro e0 (And.intro e1 (And.intro e2 (And.intro e3 e4))))
            have ZZ := hid z0
            clear a0 a1 a2 a3 a4 e0 e1 e2 e3 e4 z0
            go_upto_region 29 with fail
            refine wp_region_held_drew (S := fun w' => Below wr.heap.size wr w') (by kernel_rfl) (Below.refl _ wr).drew ?_
            intro hS
            (refine wpAnyH_take (i := 0) (v := ?_) rfl (by kernel_rfl) (by kernel_rfl) (by kernel_rfl) (fun _ _ _ h => h) (Or.inl ⟨by rfl, ?_⟩) hS ?_); rotate_left; (focus (intro w' hSw; have q0 := (hSw.cell (p := ⟨g1, j * 5, none⟩) g1l).trans AA.out.1; have q1 := (hSw.cell (p := ⟨g1, j * 5 + 1, none⟩) g1l).trans AA.out.2.1; have q2 := (hSw.cell (p := ⟨g1, j * 5 + 2, none⟩) g1l).trans AA.out.2.2.1; have q3 := (hSw.cell (p := ⟨g1, j * 5 + 3, none⟩) g1l).trans AA.out.2.2.2.1; have q4 := (hSw.cell (p := ⟨g1, j * 5 + 4, none⟩) g1l).trans AA.out.2.2.2.2; have h0 := (hSw.cell (p := ⟨g2, j * 5, none⟩) g2l).trans EE.out.1; have h1 := (hSw.cell (p := ⟨g2, j * 5 + 1, none⟩) g2l).trans EE.out.2.1; have h2 := (hSw.cell (p := ⟨g2, j * 5 + 2, none⟩) g2l).trans EE.out.2.2.1; have h3 := (hSw.cell (p := ⟨g2, j * 5 + 3, none⟩) g2l).trans EE.out.2.2.2.1; have h4 := (hSw.cell (p := ⟨g2, j * 5 + 4, none⟩) g2l).trans EE.out.2.2.2.2; go_simp; (try with_reducible rfl))); (try simp only [Act.put, List.getElem_toArray, List.getElem_cons_zero, List.getElem_cons_succ, List.setIfInBounds_toArray, List.set_cons_zero, List.set_cons_succ])
            (refine wpAnyH_take (i := 1) (v := ?_) rfl (by kernel_rfl) (by kernel_rfl) (by kernel_rfl) (fun _ _ _ h => h) (Or.inl ⟨by rfl, ?_⟩) hS ?_); rotate_left; (focus (intro w' hSw; have q0 := (hSw.cell (p := ⟨g1, j * 5, none⟩) g1l).trans AA.out.1; have q1 := (hSw.cell (p := ⟨g1, j * 5 + 1, none⟩) g1l).trans AA.out.2.1; have q2 := (hSw.cell (p := ⟨g1, j * 5 + 2, none⟩) g1l).trans AA.out.2.2.1; have q3 := (hSw.cell (p := ⟨g1, j * 5 + 3, none⟩) g1l).trans AA.out.2.2.2.1; have q4 := (hSw.cell (p := ⟨g1, j * 5 + 4, none⟩) g1l).trans AA.out.2.2.2.2; have h0 := (hSw.cell (p := ⟨g2, j * 5, none⟩) g2l).trans EE.out.1; have h1 := (hSw.cell (p := ⟨g2, j * 5 + 1, none⟩) g2l).trans EE.out.2.1; have h2 := (hSw.cell (p := ⟨g2, j * 5 + 2, none⟩) g2l).trans EE.out.2.2.1; have h3 := (hSw.cell (p := ⟨g2, j * 5 + 3, none⟩) g2l).trans EE.out.2.2.2.1; have h4 := (hSw.cell (p := ⟨g2, j * 5 + 4, none⟩) g2l).trans EE.out.2.2.2.2; go_simp; (try with_reducible rfl))); (try simp only [Act.put, List.getElem_toArray, List.getElem_cons_zero, List.getElem_cons_succ, List.setIfInBounds_toArray, List.set_cons_zero, List.set_cons_succ])
            (refine wpAnyH_take (i := 2) (v := ?_) rfl (by kernel_rfl) (by kernel_rfl) (by kernel_rfl) (fun _ _ _ h => h) (Or.inl ⟨by rfl, ?_⟩) hS ?_); rotate_left; (focus (intro w' hSw; have q0 := (hSw.cell (p := ⟨g1, j * 5, none⟩) g1l).trans AA.out.1; have q1 := (hSw.cell (p := ⟨g1, j * 5 + 1, none⟩) g1l).trans AA.out.2.1; have q2 := (hSw.cell (p := ⟨g1, j * 5 + 2, none⟩) g1l).trans AA.out.2.2.1; have q3 := (hSw.cell (p := ⟨g1, j * 5 + 3, none⟩) g1l).trans AA.out.2.2.2.1; have q4 := (hSw.cell (p := ⟨g1, j * 5 + 4, none⟩) g1l).trans AA.out.2.2.2.2; have h0 := (hSw.cell (p := ⟨g2, j * 5, none⟩) g2l).trans EE.out.1; have h1 := (hSw.cell (p := ⟨g2, j * 5 + 1, none⟩) g2l).trans EE.out.2.1; have h2 := (hSw.cell (p := ⟨g2, j * 5 + 2, none⟩) g2l).trans EE.out.2.2.1; have h3 := (hSw.cell (p := ⟨g2, j * 5 + 3, none⟩) g2l).trans EE.out.2.2.2.1; have h4 := (hSw.cell (p := ⟨g2, j * 5 + 4, none⟩) g2l).trans EE.out.2.2.2.2; go_simp; (try with_reducible rfl))); (try simp only [Act.put, List.getElem_toArray, List.getElem_cons_zero, List.getElem_cons_succ, List.setIfInBounds_toArray, List.set_cons_zero, List.set_cons_succ])
            (refine wpAnyH_take (i := 3) (v := ?_) rfl (by kernel_rfl) (by kernel_rfl) (by kernel_rfl) (fun _ _ _ h => h) (Or.inl ⟨by rfl, ?_⟩) hS ?_); rotate_left; (focus (intro w' hSw; have q0 := (hSw.cell (p := ⟨g1, j * 5, none⟩) g1l).trans AA.out.1; have q1 := (hSw.cell (p := ⟨g1, j * 5 + 1, none⟩) g1l).trans AA.out.2.1; have q2 := (hSw.cell (p := ⟨g1, j * 5 + 2, none⟩) g1l).trans AA.out.2.2.1; have q3 := (hSw.cell (p := ⟨g1, j * 5 + 3, none⟩) g1l).trans AA.out.2.2.2.1; have q4 := (hSw.cell (p := ⟨g1, j * 5 + 4, none⟩) g1l).trans AA.out.2.2.2.2; have h0 := (hSw.cell (p := ⟨g2, j * 5, none⟩) g2l).trans EE.out.1; have h1 := (hSw.cell (p := ⟨g2, j * 5 + 1, none⟩) g2l).trans EE.out.2.1; have h2 := (hSw.cell (p := ⟨g2, j * 5 + 2, none⟩) g2l).trans EE.out.2.2.1; have h3 := (hSw.cell (p := ⟨g2, j * 5 + 3, none⟩) g2l).trans EE.out.2.2.2.1; have h4 := (hSw.cell (p := ⟨g2, j * 5 + 4, none⟩) g2l).trans EE.out.2.2.2.2; go_simp; (try with_reducible rfl))); (try simp only [Act.put, List.getElem_toArray, List.getElem_cons_zero, List.getElem_cons_succ, List.setIfInBounds_toArray, List.set_cons_zero, List.set_cons_succ])
            (refine wpAnyH_take (i := 4) (v := ?_) rfl (by kernel_rfl) (by kernel_rfl) (by kernel_rfl) (fun _ _ _ h => h) (Or.inl ⟨by rfl, ?_⟩) hS ?_); rotate_left; (focus (intro w' hSw; have q0 := (hSw.cell (p := ⟨g1, j * 5, none⟩) g1l).trans AA.out.1; have q1 := (hSw.cell (p := ⟨g1, j * 5 + 1, none⟩) g1l).trans AA.out.2.1; have q2 := (hSw.cell (p := ⟨g1, j * 5 + 2, none⟩) g1l).trans AA.out.2.2.1; have q3 := (hSw.cell (p := ⟨g1, j * 5 + 3, none⟩) g1l).trans AA.out.2.2.2.1; have q4 := (hSw.cell (p := ⟨g1, j * 5 + 4, none⟩) g1l).trans AA.out.2.2.2.2; have h0 := (hSw.cell (p := ⟨g2, j * 5, none⟩) g2l).trans EE.out.1; have h1 := (hSw.cell (p := ⟨g2, j * 5 + 1, none⟩) g2l).trans EE.out.2.1; have h2 := (hSw.cell (p := ⟨g2, j * 5 + 2, none⟩) g2l).trans EE.out.2.2.1; have h3 := (hSw.cell (p := ⟨g2, j * 5 + 3, none⟩) g2l).trans EE.out.2.2.2.1; have h4 := (hSw.cell (p := ⟨g2, j * 5 + 4, none⟩) g2l).trans EE.out.2.2.2.2; go_simp; (try with_reducible rfl))); (try simp only [Act.put, List.getElem_toArray, List.getElem_cons_zero, List.getElem_cons_succ, List.setIfInBounds_toArray, List.set_cons_zero, List.set_cons_succ])
            (refine wpAnyH_take (i := 5) (v := ?_) rfl (by kernel_rfl) (by kernel_rfl) (by kernel_rfl) (fun _ _ _ h => h) (Or.inl ⟨by rfl, ?_⟩) hS ?_); rotate_left; (focus (intro w' hSw; have q0 := (hSw.cell (p := ⟨g1, j * 5, none⟩) g1l).trans AA.out.1; have q1 := (hSw.cell (p := ⟨g1, j * 5 + 1, none⟩) g1l).trans AA.out.2.1; have q2 := (hSw.cell (p := ⟨g1, j * 5 + 2, none⟩) g1l).trans AA.out.2.2.1; have q3 := (hSw.cell (p := ⟨g1, j * 5 + 3, none⟩) g1l).trans AA.out.2.2.2.1; have q4 := (hSw.cell (p := ⟨g1, j * 5 + 4, none⟩) g1l).trans AA.out.2.2.2.2; have h0 := (hSw.cell (p := ⟨g2, j * 5, none⟩) g2l).trans EE.out.1; have h1 := (hSw.cell (p := ⟨g2, j * 5 + 1, none⟩) g2l).trans EE.out.2.1; have h2 := (hSw.cell (p := ⟨g2, j * 5 + 2, none⟩) g2l).trans EE.out.2.2.1; have h3 := (hSw.cell (p := ⟨g2, j * 5 + 3, none⟩) g2l).trans EE.out.2.2.2.1; have h4 := (hSw.cell (p := ⟨g2, j * 5 + 4, none⟩) g2l).trans EE.out.2.2.2.2; go_simp; (try with_reducible rfl))); (try simp only [Act.put, List.getElem_toArray, List.getElem_cons_zero, List.getElem_cons_succ, List.setIfInBounds_toArray, List.set_cons_zero, List.set_cons_succ])
            (refine wpAnyH_take (i := 6) (v := ?_) rfl (by kernel_rfl) (by kernel_rfl) (by kernel_rfl) (fun _ _ _ h => h) (Or.inl ⟨by rfl, ?_⟩) hS ?_); rotate_left; (focus (intro w' hSw; have q0 := (hSw.cell (p := ⟨g1, j * 5, none⟩) g1l).trans AA.out.1; have q1 := (hSw.cell (p := ⟨g1, j * 5 + 1, none⟩) g1l).trans AA.out.2.1; have q2 := (hSw.cell (p := ⟨g1, j * 5 + 2, none⟩) g1l).trans AA.out.2.2.1; have q3 := (hSw.cell (p := ⟨g1, j * 5 + 3, none⟩) g1l).trans AA.out.2.2.2.1; have q4 := (hSw.cell (p := ⟨g1, j * 5 + 4, none⟩) g1l).trans AA.out.2.2.2.2; have h0 := (hSw.cell (p := ⟨g2, j * 5, none⟩) g2l).trans EE.out.1; have h1 := (hSw.cell (p := ⟨g2, j * 5 + 1, none⟩) g2l).trans EE.out.2.1; have h2 := (hSw.cell (p := ⟨g2, j * 5 + 2, none⟩) g2l).trans EE.out.2.2.1; have h3 := (hSw.cell (p := ⟨g2, j * 5 + 3, none⟩) g2l).trans EE.out.2.2.2.1; have h4 := (hSw.cell (p := ⟨g2, j * 5 + 4, none⟩) g2l).trans EE.out.2.2.2.2; go_simp; (try with_reducible rfl))); (try simp only [Act.put, List.getElem_toArray, List.getElem_cons_zero, List.getElem_cons_succ, List.setIfInBounds_toArray, List.set_cons_zero, List.set_cons_succ])
            (refine wpAnyH_take (i := 7) (v := ?_) rfl (by kernel_rfl) (by kernel_rfl) (by kernel_rfl) (fun _ _ _ h => h) (Or.inl ⟨by rfl, ?_⟩) hS ?_); rotate_left; (focus (intro w' hSw; have q0 := (hSw.cell (p := ⟨g1, j * 5, none⟩) g1l).trans AA.out.1; have q1 := (hSw.cell (p := ⟨g1, j * 5 + 1, none⟩) g1l).trans AA.out.2.1; have q2 := (hSw.cell (p := ⟨g1, j * 5 + 2, none⟩) g1l).trans AA.out.2.2.1; have q3 := (hSw.cell (p := ⟨g1, j * 5 + 3, none⟩) g1l).trans AA.out.2.2.2.1; have q4 := (hSw.cell (p := ⟨g1, j * 5 + 4, none⟩) g1l).trans AA.out.2.2.2.2; have h0 := (hSw.cell (p := ⟨g2, j * 5, none⟩) g2l).trans EE.out.1; have h1 := (hSw.cell (p := ⟨g2, j * 5 + 1, none⟩) g2l).trans EE.out.2.1; have h2 := (hSw.cell (p := ⟨g2, j * 5 + 2, none⟩) g2l).trans EE.out.2.2.1; have h3 := (hSw.cell (p := ⟨g2, j * 5 + 3, none⟩) g2l).trans EE.out.2.2.2.1; have h4 := (hSw.cell (p := ⟨g2, j * 5 + 4, none⟩) g2l).trans EE.out.2.2.2.2; go_simp; (try with_reducible rfl))); (try simp only [Act.put, List.getElem_toArray, List.getElem_cons_zero, List.getElem_cons_succ, List.setIfInBounds_toArray, List.set_cons_zero, List.set_cons_succ])
            refine wpAnyH_ready (rs := [8, 9]) (by kernel_rfl) (by simp) ?_
            refine AllReadyH.cons rfl (fun K hK => ?_) (AllReadyH.cons rfl (fun K hK => ?_) AllReadyH.nil)
            · go_simp
              have za : Below wr.heap.size wr (wr.alloc (Obj.cells #[Value.int .i64 0, Value.int .i64 0, Value.string ⟨#[]⟩, Value.int .i64 0, Value.int .u64 0] 30)).drew := ((Below.refl _ wr).alloc (Nat.le_refl _) _).drew
              have zb : (wr.alloc (Obj.cells #[Value.int .i64 0, Value.int .i64 0, Value.string ⟨#[]⟩, Value.int .i64 0, Value.int .u64 0] 30)).drew.heap[wr.heap.size]? = some (Obj.cells #[Value.int .i64 0, Value.int .i64 0, Value.string ⟨#[]⟩, Value.int .i64 0, Value.int .u64 0] 30 (0, 0)) := World.alloc_heap_new wr _
              have zc : (wr.alloc (Obj.cells #[Value.int .i64 0, Value.int .i64 0, Value.string ⟨#[]⟩, Value.int .i64 0, Value.int .u64 0] 30)).drew.heap.size = wr.heap.size + 1 := World.size_alloc ..
              generalize (wr.alloc (Obj.cells #[Value.int .i64 0, Value.int .i64 0, Value.string ⟨#[]⟩, Value.int .i64 0, Value.int .u64 0] 30)).drew = Wa at *
              refine hK.out _ _ za (fun _ => ?_)
              clear hK K
              refine wpAnyH_ready (rs := [9]) (by kernel_rfl) (by simp) ?_
              refine AllReadyH.cons rfl (fun K hK => ?_) AllReadyH.nil
              have ZC := hid zc
              clear zc
              go_simp
              have zd : Below wr.heap.size wr (Wa.alloc (Obj.cells #[Value.int .i64 0, Value.int .i64 0, Value.string ⟨#[]⟩, Value.int .i64 0, Value.int .u64 0] 30)) := za.trans (((Below.refl _ Wa).alloc (Nat.le_refl _) _).mono za.size)
              have ze : (Wa.alloc (Obj.cells #[Value.int .i64 0, Value.int .i64 0, Value.string ⟨#[]⟩, Value.int .i64 0, Value.int .u64 0] 30)).heap[wr.heap.size]? = some (Obj.cells #[Value.int .i64 0, Value.int .i64 0, Value.string ⟨#[]⟩, Value.int .i64 0, Value.int .u64 0] 30 (0, 0)) := (Below.heap_alloc _ _ _ (by have := ZC.out; omega)).trans zb
              have zf : (Wa.alloc (Obj.cells #[Value.int .i64 0, Value.int .i64 0, Value.string ⟨#[]⟩, Value.int .i64 0, Value.int .u64 0] 30)).heap[Wa.heap.size]? = some (Obj.cells #[Value.int .i64 0, Value.int .i64 0, Value.string ⟨#[]⟩, Value.int .i64 0, Value.int .u64 0] 30 (0, 0)) := World.alloc_heap_new Wa _
              generalize World.alloc Wa _ = Wb at *
              refine hK.out _ _ zd (fun _ => ?_)
              clear hK K
              have FA := hid (ze)
              have FB := hid (zf)
              have ca := row_cellsX FA.out
              have fa := row_thawX FA.out
              have ca0 : Wb.cell? ⟨wr.heap.size, 0, none⟩ = some (.int .i64 0) := ca 0
              have ca1 : Wb.cell? ⟨wr.heap.size, 1, none⟩ = some (.int .i64 0) := ca 1
              have ca2 : Wb.cell? ⟨wr.heap.size, 2, none⟩ = some (.string ⟨#[]⟩) := ca 2
              have ca3 : Wb.cell? ⟨wr.heap.size, 3, none⟩ = some (.int .i64 0) := ca 3
              have ca4 : Wb.cell? ⟨wr.heap.size, 4, none⟩ = some (.int .u64 0) := ca 4
              have ZD := hid zd
              clear za zb zd ze zf ca
              refine wpAnyH_ready (rs := [10]) (by kernel_rfl) (by simp) ?_
              refine AllReadyH.cons rfl (fun K hK => ?_) AllReadyH.nil
              go_simp
              have sa := five_setX FA.out (.int .i64 y.kind) (.int .i64 (pj : Int)) (.string y.text) (.int .i64 y.int) (.int .u64 y.bits)
              have sb := five_belowX ZD.out (gb := wr.heap.size) (by have := ZC.out; omega) (.int .i64 y.kind) (.int .i64 (pj : Int)) (.string y.text) (.int .i64 y.int) (.int .u64 y.bits)
              have sc : (((((Wb.setCell ⟨wr.heap.size, 0, none⟩ (.int .i64 y.kind)).setCell ⟨wr.heap.size, 1, none⟩ (.int .i64 (pj : Int))).setCell ⟨wr.heap.size, 2, none⟩ (.string y.text)).setCell ⟨wr.heap.size, 3, none⟩ (.int .i64 y.int)).setCell ⟨wr.heap.size, 4, none⟩ (.int .u64 y.bits)).heap[Wa.heap.size]? = some (Obj.cells #[Value.int .i64 0, Value.int .i64 0, Value.string ⟨#[]⟩, Value.int .i64 0, Value.int .u64 0] 30 (0, 0)) := ((((Below.heap_setCell _ _ _ _ (by have := ZC.out; show Wa.heap.size ≠ wr.heap.size; omega)).trans (Below.heap_setCell _ _ _ _ (by have := ZC.out; show Wa.heap.size ≠ wr.heap.size; omega))).trans (Below.heap_setCell _ _ _ _ (by have := ZC.out; show Wa.heap.size ≠ wr.heap.size; omega))).trans (Below.heap_setCell _ _ _ _ (by have := ZC.out; show Wa.heap.size ≠ wr.heap.size; omega))).trans ((Below.heap_setCell _ _ _ _ (by have := ZC.out; show Wa.heap.size ≠ wr.heap.size; omega)).trans FB.out)
              generalize ((((Wb.setCell ⟨wr.heap.size, 0, none⟩ (.int .i64 y.kind)).setCell ⟨wr.heap.size, 1, none⟩ (.int .i64 (pj : Int))).setCell ⟨wr.heap.size, 2, none⟩ (.string y.text)).setCell ⟨wr.heap.size, 3, none⟩ (.int .i64 y.int)).setCell ⟨wr.heap.size, 4, none⟩ (.int .u64 y.bits) = Wc at *
              refine hK.out _ _ sb (fun _ => ?_)
              clear hK K
              replace FA := hid sa
              replace FB := hid sc
              replace ZD := hid sb
              have cb := row_cellsX FB.out
              have fb := row_thawX FB.out
              have cb0 : Wc.cell? ⟨Wa.heap.size, 0, none⟩ = some (.int .i64 0) := cb 0
              have cb1 : Wc.cell? ⟨Wa.heap.size, 1, none⟩ = some (.int .i64 0) := cb 1
              have cb2 : Wc.cell? ⟨Wa.heap.size, 2, none⟩ = some (.string ⟨#[]⟩) := cb 2
              have cb3 : Wc.cell? ⟨Wa.heap.size, 3, none⟩ = some (.int .i64 0) := cb 3
              have cb4 : Wc.cell? ⟨Wa.heap.size, 4, none⟩ = some (.int .u64 0) := cb 4
              clear sa sb sc ca0 ca1 ca2 ca3 ca4 fa cb
              refine wpAnyH_ready (rs := [11]) (by kernel_rfl) (by simp) ?_
              refine AllReadyH.cons rfl (fun K hK => ?_) AllReadyH.nil
              go_simp
              have sa := five_setX FB.out (.int .i64 y.kind) (.int .i64 bA) (.string y.text) (.int .i64 y.int) (.int .u64 y.bits)
              have sb := five_belowX ZD.out (gb := Wa.heap.size) (by have := ZC.out; omega) (.int .i64 y.kind) (.int .i64 bA) (.string y.text) (.int .i64 y.int) (.int .u64 y.bits)
              have sc : (((((Wc.setCell ⟨Wa.heap.size, 0, none⟩ (.int .i64 y.kind)).setCell ⟨Wa.heap.size, 1, none⟩ (.int .i64 bA)).setCell ⟨Wa.heap.size, 2, none⟩ (.string y.text)).setCell ⟨Wa.heap.size, 3, none⟩ (.int .i64 y.int)).setCell ⟨Wa.heap.size, 4, none⟩ (.int .u64 y.bits)).heap[wr.heap.size]? = some (.cells #[.int .i64 y.kind, .int .i64 (pj : Int), .string y.text, .int .i64 y.int, .int .u64 y.bits] 30 (0, 0)) := ((((Below.heap_setCell _ _ _ _ (by have := ZC.out; show wr.heap.size ≠ Wa.heap.size; omega)).trans (Below.heap_setCell _ _ _ _ (by have := ZC.out; show wr.heap.size ≠ Wa.heap.size; omega))).trans (Below.heap_setCell _ _ _ _ (by have := ZC.out; show wr.heap.size ≠ Wa.heap.size; omega))).trans (Below.heap_setCell _ _ _ _ (by have := ZC.out; show wr.heap.size ≠ Wa.heap.size; omega))).trans ((Below.heap_setCell _ _ _ _ (by have := ZC.out; show wr.heap.size ≠ Wa.heap.size; omega)).trans FA.out)
              generalize ((((Wc.setCell ⟨Wa.heap.size, 0, none⟩ (.int .i64 y.kind)).setCell ⟨Wa.heap.size, 1, none⟩ (.int .i64 bA)).setCell ⟨Wa.heap.size, 2, none⟩ (.string y.text)).setCell ⟨Wa.heap.size, 3, none⟩ (.int .i64 y.int)).setCell ⟨Wa.heap.size, 4, none⟩ (.int .u64 y.bits) = Wd at *
              refine hK.out _ _ sb (fun _ => ?_)
              clear hK K
              refine wpAnyH_done (by kernel_rfl) ?_ _
              have HBd := hid (HBq.out.trans (sb.mono HBq.out.size))
              have x0 := BW.cell (show Wd.cell? ⟨wr.heap.size, 0, none⟩ = some (.int .i64 y.kind) from row_cellsX sc 0)
              have x1 := BW.cell (show Wd.cell? ⟨wr.heap.size, 1, none⟩ = some (.int .i64 (pj : Int)) from row_cellsX sc 1)
              have x2 := BW.cell (show Wd.cell? ⟨wr.heap.size, 2, none⟩ = some (.string y.text) from row_cellsX sc 2)
              have x3 := BW.cell (show Wd.cell? ⟨wr.heap.size, 3, none⟩ = some (.int .i64 y.int) from row_cellsX sc 3)
              have x4 := BW.cell (show Wd.cell? ⟨wr.heap.size, 4, none⟩ = some (.int .u64 y.bits) from row_cellsX sc 4)
              have z0 := BW.cell (show Wd.cell? ⟨Wa.heap.size, 0, none⟩ = some (.int .i64 y.kind) from row_cellsX sa 0)
              have z1 := BW.cell (show Wd.cell? ⟨Wa.heap.size, 1, none⟩ = some (.int .i64 bA) from row_cellsX sa 1)
              have z2 := BW.cell (show Wd.cell? ⟨Wa.heap.size, 2, none⟩ = some (.string y.text) from row_cellsX sa 2)
              have z3 := BW.cell (show Wd.cell? ⟨Wa.heap.size, 3, none⟩ = some (.int .i64 y.int) from row_cellsX sa 3)
              have z4 := BW.cell (show Wd.cell? ⟨Wa.heap.size, 4, none⟩ = some (.int .u64 y.bits) from row_cellsX sa 4)
              have p1 := BW.cell (show Wd.cell? ⟨g1, 1, none⟩ = some (.int .i64 (p0 : Int)) from (sb.cell (p := ⟨g1, 1, none⟩) g1l).trans ZZ.out)
              clear sa sb sc FA FB ZD cb0 cb1 cb2 cb3 cb4 fb ZC hS
              go_upto_region 30 with fail
              have inst : Nonempty (BW Wd) := ⟨⟨_, Below.refl _ _⟩⟩
              refine wp_region_quiet_below (by kernel_rfl) (by kernel_rfl) ?_
              repeat (go_big_quiet_step (fail))
              refine wpQuiet_nil ?_
              intro _ hw'
              obtain ⟨pw, hw''⟩ := hw'
              subst hw''
              clear x0 x1 x2 x3 x4 z0 z1 z2 z3 z4 p1 inst
              go_wp2
              go_roundw
              case rel => exact ⟨j + 1, by go_num, HC.out, HBd.out.trans (pw.h.mono HBd.out.size)⟩
              case measure => have := HC.out; simp [intOf]; omega
            · go_simp
              have za : Below wr.heap.size wr (wr.alloc (Obj.cells #[Value.int .i64 0, Value.int .i64 0, Value.string ⟨#[]⟩, Value.int .i64 0, Value.int .u64 0] 30)).drew := ((Below.refl _ wr).alloc (Nat.le_refl _) _).drew
              have zb : (wr.alloc (Obj.cells #[Value.int .i64 0, Value.int .i64 0, Value.string ⟨#[]⟩, Value.int .i64 0, Value.int .u64 0] 30)).drew.heap[wr.heap.size]? = some (Obj.cells #[Value.int .i64 0, Value.int .i64 0, Value.string ⟨#[]⟩, Value.int .i64 0, Value.int .u64 0] 30 (0, 0)) := World.alloc_heap_new wr _
              have zc : (wr.alloc (Obj.cells #[Value.int .i64 0, Value.int .i64 0, Value.string ⟨#[]⟩, Value.int .i64 0, Value.int .u64 0] 30)).drew.heap.size = wr.heap.size + 1 := World.size_alloc ..
              generalize (wr.alloc (Obj.cells #[Value.int .i64 0, Value.int .i64 0, Value.string ⟨#[]⟩, Value.int .i64 0, Value.int .u64 0] 30)).drew = Wa at *
              refine hK.out _ _ za (fun _ => ?_)
              clear hK K
              refine wpAnyH_ready (rs := [8]) (by kernel_rfl) (by simp) ?_
              refine AllReadyH.cons rfl (fun K hK => ?_) AllReadyH.nil
              have ZC := hid zc
              clear zc
              go_simp
              have zd : Below wr.heap.size wr (Wa.alloc (Obj.cells #[Value.int .i64 0, Value.int .i64 0, Value.string ⟨#[]⟩, Value.int .i64 0, Value.int .u64 0] 30)) := za.trans (((Below.refl _ Wa).alloc (Nat.le_refl _) _).mono za.size)
              have ze : (Wa.alloc (Obj.cells #[Value.int .i64 0, Value.int .i64 0, Value.string ⟨#[]⟩, Value.int .i64 0, Value.int .u64 0] 30)).heap[wr.heap.size]? = some (Obj.cells #[Value.int .i64 0, Value.int .i64 0, Value.string ⟨#[]⟩, Value.int .i64 0, Value.int .u64 0] 30 (0, 0)) := (Below.heap_alloc _ _ _ (by have := ZC.out; omega)).trans zb
              have zf : (Wa.alloc (Obj.cells #[Value.int .i64 0, Value.int .i64 0, Value.string ⟨#[]⟩, Value.int .i64 0, Value.int .u64 0] 30)).heap[Wa.heap.size]? = some (Obj.cells #[Value.int .i64 0, Value.int .i64 0, Value.string ⟨#[]⟩, Value.int .i64 0, Value.int .u64 0] 30 (0, 0)) := World.alloc_heap_new Wa _
              generalize World.alloc Wa _ = Wb at *
              refine hK.out _ _ zd (fun _ => ?_)
              clear hK K
              have FA := hid (zf)
              have FB := hid (ze)
              have ca := row_cellsX FA.out
              have fa := row_thawX FA.out
              have ca0 : Wb.cell? ⟨Wa.heap.size, 0, none⟩ = some (.int .i64 0) := ca 0
              have ca1 : Wb.cell? ⟨Wa.heap.size, 1, none⟩ = some (.int .i64 0) := ca 1
              have ca2 : Wb.cell? ⟨Wa.heap.size, 2, none⟩ = some (.string ⟨#[]⟩) := ca 2
              have ca3 : Wb.cell? ⟨Wa.heap.size, 3, none⟩ = some (.int .i64 0) := ca 3
              have ca4 : Wb.cell? ⟨Wa.heap.size, 4, none⟩ = some (.int .u64 0) := ca 4
              have ZD := hid zd
              clear za zb zd ze zf ca
              refine wpAnyH_ready (rs := [10]) (by kernel_rfl) (by simp) ?_
              refine AllReadyH.cons rfl (fun K hK => ?_) AllReadyH.nil
              go_simp
              have sa := five_setX FA.out (.int .i64 y.kind) (.int .i64 (pj : Int)) (.string y.text) (.int .i64 y.int) (.int .u64 y.bits)
              have sb := five_belowX ZD.out (gb := Wa.heap.size) (by have := ZC.out; omega) (.int .i64 y.kind) (.int .i64 (pj : Int)) (.string y.text) (.int .i64 y.int) (.int .u64 y.bits)
              have sc : (((((Wb.setCell ⟨Wa.heap.size, 0, none⟩ (.int .i64 y.kind)).setCell ⟨Wa.heap.size, 1, none⟩ (.int .i64 (pj : Int))).setCell ⟨Wa.heap.size, 2, none⟩ (.string y.text)).setCell ⟨Wa.heap.size, 3, none⟩ (.int .i64 y.int)).setCell ⟨Wa.heap.size, 4, none⟩ (.int .u64 y.bits)).heap[wr.heap.size]? = some (Obj.cells #[Value.int .i64 0, Value.int .i64 0, Value.string ⟨#[]⟩, Value.int .i64 0, Value.int .u64 0] 30 (0, 0)) := ((((Below.heap_setCell _ _ _ _ (by have := ZC.out; show wr.heap.size ≠ Wa.heap.size; omega)).trans (Below.heap_setCell _ _ _ _ (by have := ZC.out; show wr.heap.size ≠ Wa.heap.size; omega))).trans (Below.heap_setCell _ _ _ _ (by have := ZC.out; show wr.heap.size ≠ Wa.heap.size; omega))).trans (Below.heap_setCell _ _ _ _ (by have := ZC.out; show wr.heap.size ≠ Wa.heap.size; omega))).trans ((Below.heap_setCell _ _ _ _ (by have := ZC.out; show wr.heap.size ≠ Wa.heap.size; omega)).trans FB.out)
              generalize ((((Wb.setCell ⟨Wa.heap.size, 0, none⟩ (.int .i64 y.kind)).setCell ⟨Wa.heap.size, 1, none⟩ (.int .i64 (pj : Int))).setCell ⟨Wa.heap.size, 2, none⟩ (.string y.text)).setCell ⟨Wa.heap.size, 3, none⟩ (.int .i64 y.int)).setCell ⟨Wa.heap.size, 4, none⟩ (.int .u64 y.bits) = Wc at *
              refine hK.out _ _ sb (fun _ => ?_)
              clear hK K
              replace FA := hid sa
              replace FB := hid sc
              replace ZD := hid sb
              have cb := row_cellsX FB.out
              have fb := row_thawX FB.out
              have cb0 : Wc.cell? ⟨wr.heap.size, 0, none⟩ = some (.int .i64 0) := cb 0
              have cb1 : Wc.cell? ⟨wr.heap.size, 1, none⟩ = some (.int .i64 0) := cb 1
              have cb2 : Wc.cell? ⟨wr.heap.size, 2, none⟩ = some (.string ⟨#[]⟩) := cb 2
              have cb3 : Wc.cell? ⟨wr.heap.size, 3, none⟩ = some (.int .i64 0) := cb 3
              have cb4 : Wc.cell? ⟨wr.heap.size, 4, none⟩ = some (.int .u64 0) := cb 4
              clear sa sb sc ca0 ca1 ca2 ca3 ca4 fa cb
              refine wpAnyH_ready (rs := [11]) (by kernel_rfl) (by simp) ?_
              refine AllReadyH.cons rfl (fun K hK => ?_) AllReadyH.nil
              go_simp
              have sa := five_setX FB.out (.int .i64 y.kind) (.int .i64 bA) (.string y.text) (.int .i64 y.int) (.int .u64 y.bits)
              have sb := five_belowX ZD.out (gb := wr.heap.size) (by have := ZC.out; omega) (.int .i64 y.kind) (.int .i64 bA) (.string y.text) (.int .i64 y.int) (.int .u64 y.bits)
              have sc : (((((Wc.setCell ⟨wr.heap.size, 0, none⟩ (.int .i64 y.kind)).setCell ⟨wr.heap.size, 1, none⟩ (.int .i64 bA)).setCell ⟨wr.heap.size, 2, none⟩ (.string y.text)).setCell ⟨wr.heap.size, 3, none⟩ (.int .i64 y.int)).setCell ⟨wr.heap.size, 4, none⟩ (.int .u64 y.bits)).heap[Wa.heap.size]? = some (.cells #[.int .i64 y.kind, .int .i64 (pj : Int), .string y.text, .int .i64 y.int, .int .u64 y.bits] 30 (0, 0)) := ((((Below.heap_setCell _ _ _ _ (by have := ZC.out; show Wa.heap.size ≠ wr.heap.size; omega)).trans (Below.heap_setCell _ _ _ _ (by have := ZC.out; show Wa.heap.size ≠ wr.heap.size; omega))).trans (Below.heap_setCell _ _ _ _ (by have := ZC.out; show Wa.heap.size ≠ wr.heap.size; omega))).trans (Below.heap_setCell _ _ _ _ (by have := ZC.out; show Wa.heap.size ≠ wr.heap.size; omega))).trans ((Below.heap_setCell _ _ _ _ (by have := ZC.out; show Wa.heap.size ≠ wr.heap.size; omega)).trans FA.out)
              generalize ((((Wc.setCell ⟨wr.heap.size, 0, none⟩ (.int .i64 y.kind)).setCell ⟨wr.heap.size, 1, none⟩ (.int .i64 bA)).setCell ⟨wr.heap.size, 2, none⟩ (.string y.text)).setCell ⟨wr.heap.size, 3, none⟩ (.int .i64 y.int)).setCell ⟨wr.heap.size, 4, none⟩ (.int .u64 y.bits) = Wd at *
              refine hK.out _ _ sb (fun _ => ?_)
              clear hK K
              refine wpAnyH_done (by kernel_rfl) ?_ _
              have HBd := hid (HBq.out.trans (sb.mono HBq.out.size))
              have x0 := BW.cell (show Wd.cell? ⟨Wa.heap.size, 0, none⟩ = some (.int .i64 y.kind) from row_cellsX sc 0)
              have x1 := BW.cell (show Wd.cell? ⟨Wa.heap.size, 1, none⟩ = some (.int .i64 (pj : Int)) from row_cellsX sc 1)
              have x2 := BW.cell (show Wd.cell? ⟨Wa.heap.size, 2, none⟩ = some (.string y.text) from row_cellsX sc 2)
              have x3 := BW.cell (show Wd.cell? ⟨Wa.heap.size, 3, none⟩ = some (.int .i64 y.int) from row_cellsX sc 3)
              have x4 := BW.cell (show Wd.cell? ⟨Wa.heap.size, 4, none⟩ = some (.int .u64 y.bits) from row_cellsX sc 4)
              have z0 := BW.cell (show Wd.cell? ⟨wr.heap.size, 0, none⟩ = some (.int .i64 y.kind) from row_cellsX sa 0)
              have z1 := BW.cell (show Wd.cell? ⟨wr.heap.size, 1, none⟩ = some (.int .i64 bA) from row_cellsX sa 1)
              have z2 := BW.cell (show Wd.cell? ⟨wr.heap.size, 2, none⟩ = some (.string y.text) from row_cellsX sa 2)
              have z3 := BW.cell (show Wd.cell? ⟨wr.heap.size, 3, none⟩ = some (.int .i64 y.int) from row_cellsX sa 3)
              have z4 := BW.cell (show Wd.cell? ⟨wr.heap.size, 4, none⟩ = some (.int .u64 y.bits) from row_cellsX sa 4)
              have p1 := BW.cell (show Wd.cell? ⟨g1, 1, none⟩ = some (.int .i64 (p0 : Int)) from (sb.cell (p := ⟨g1, 1, none⟩) g1l).trans ZZ.out)
              clear sa sb sc FA FB ZD cb0 cb1 cb2 cb3 cb4 fb ZC hS
              go_upto_region 30 with fail
              have inst : Nonempty (BW Wd) := ⟨⟨_, Below.refl _ _⟩⟩
              refine wp_region_quiet_below (by kernel_rfl) (by kernel_rfl) ?_
              repeat (go_big_quiet_step (fail))
              refine wpQuiet_nil ?_
              intro _ hw'
              obtain ⟨pw, hw''⟩ := hw'
              subst hw''
              clear x0 x1 x2 x3 x4 z0 z1 z2 z3 z4 p1 inst
              go_wp2
              go_roundw
              case rel => exact ⟨j + 1, by go_num, HC.out, HBd.out.trans (pw.h.mono HBd.out.size)⟩
              case measure => have := HC.out; simp [intOf]; omega
          · have l2 : ¬ (j : Int) < (n1 : Int) := by omega
            have hS := HS4.out.go hBq
            clear s1 s2 hBq hj c hn1 hY1 hm0 hL1
            go_wp2_with (go_at_call 11; refine (awake11_c _ hS.tabs hS.marks).mono ?_; rintro e wn ⟨rfl, hb⟩; (replace hS := hS.go hb); clear hb)
            go_ret
            exact ⟨rfl, hS.bel⟩
end Go.Proofs.YtfjkkndmngaaiaaDoor.W
