import Derived.Test.YtfjkkndmngaaiaaDoorXB
import Derived.Test.YtfjkkndmngaaiaaDoorXC
/- LexTwo: the walk where a text has a fault. -/
namespace Go.Proofs.YtfjkkndmngaaiaaDoor.W
open Go.ChangeShapes Go.WideShapes Go.RowKit Go.Shelf
set_option linter.unusedVariables false
/-- whatever All answers -/
theorem all_any (s : ByteArray) (hs : s.size ≤ 1000000) (w : World) (ht : Tabs w) (hm : MarksIn w) :
    Calls Tryd.prog 8 #[.string s] w fun e w' => Below w.heap.size w w' ∧ ∃ o n cap c f, e = .returned (.tuple #[.slice o n cap, .agg #[.int .i64 c, .int .i64 f]]) := by
  refine (all_c s hs w ht hm).mono ?_
  rintro e w' ⟨hB, h⟩
  refine ⟨hB, ?_⟩
  rcases h with ⟨y, h1, h2⟩ | ⟨h0, v, he, hown⟩
  · exact ⟨none, 0, 0, _, _, h2⟩
  · obtain ⟨o, cap, rfl⟩ := slice_ofX hown
    exact ⟨o, _, cap, 0, 0, he⟩
theorem lexTwo_long (A B : ByteArray) (h : 5000 < A.size ∨ 5000 < B.size) (w : World) : Calls Tryd.prog 6 #[.string A, .string B] w fun e w' => e = .returned (.bool true) ∧ Below w.heap.size w w' := by
  by_cases c : 5000 < A.size
  · have c' : (A.size : Int) > 5000 := by omega
    clear h
    go_enter Tryd.func6, Tryd.ntmps6
    go_wp2
    go_ret
    exact ⟨rfl, Below.refl _ _⟩
  · have c' : ¬ (A.size : Int) > 5000 := by omega
    have d' : (B.size : Int) > 5000 := by omega
    clear h
    go_enter Tryd.func6, Tryd.ntmps6
    go_wp2
    go_ret
    exact ⟨rfl, Below.refl _ _⟩
set_option maxRecDepth 100000 in
set_option maxHeartbeats 1000000 in
theorem lexTwo_first (A B : ByteArray) (hA : A.size ≤ 5000) (hB : B.size ≤ 5000) (c f : Int) (hc : c ≠ 0) (w : World) (ht : Tabs w) (hm : MarksIn w)
    (c1 : ∀ w, Tabs w → MarksIn w → Calls Tryd.prog 8 #[.string A] w fun e w' => Below w.heap.size w w' ∧ e = .returned (.tuple #[.slice none 0 0, .agg #[.int .i64 c, .int .i64 f]]))
    (c2 : ∀ w, Tabs w → MarksIn w → Calls Tryd.prog 8 #[.string B] w fun e w' => Below w.heap.size w w' ∧ ∃ o n cap c f, e = .returned (.tuple #[.slice o n cap, .agg #[.int .i64 c, .int .i64 f]]))
    (c3 : ∀ w, Tabs w → MarksIn w → Calls Tryd.prog 8 #[.string (A ++ ⟨#[10]⟩ ++ B)] w fun e w' => Below w.heap.size w w' ∧ ∃ o n cap c f, e = .returned (.tuple #[.slice o n cap, .agg #[.int .i64 c, .int .i64 f]])) :
    Calls Tryd.prog 6 #[.string A, .string B] w fun e w' => e = .returned (.bool true) ∧ Below w.heap.size w w' := by
  have c' : ¬ (A.size : Int) > 5000 := by omega
  have d' : ¬ (B.size : Int) > 5000 := by omega
  have hS := Sx.refl ht hm
  clear ht hm hA hB
  go_enter Tryd.func6, Tryd.ntmps6
  go_upto_region 4 with (go_at_call 8; (with_reducible refine (c1 _ hS.tabs hS.marks).mono ?_); rintro e wn ⟨hb, rfl⟩; (replace hS := hS.go hb); clear hb)
  have f1 := Blk.new wn #[Value.int .i64 c, Value.int .i64 f] 25
  replace hS := hS.alloc (Obj.cells #[Value.int .i64 c, Value.int .i64 f] 25)
  generalize World.alloc wn _ = W1 at *
  generalize wn.heap.size = b1 at *
  go_upto_region 5 with (go_at_call 8; (with_reducible refine (c2 _ hS.tabs hS.marks).mono ?_); rintro e wn ⟨hb, o2, n2, k2, e2, g2, rfl⟩; (replace hS := hS.go hb); (replace f1 := f1.go hb); clear hb)
  replace f1 := f1.alloc (Obj.cells #[Value.int .i64 e2, Value.int .i64 g2] 25)
  replace hS := hS.alloc (Obj.cells #[Value.int .i64 e2, Value.int .i64 g2] 25)
  generalize World.alloc wn _ = W2 at *
  generalize wn.heap.size = b2 at *
  go_upto_region 6 with (go_at_call 8; (with_reducible refine (c3 _ hS.tabs hS.marks).mono ?_); rintro e wn ⟨hb, o3, n3, k3, e3, g3, rfl⟩; (replace hS := hS.go hb); (replace f1 := f1.go hb); clear hb)
  replace f1 := f1.alloc (Obj.cells #[Value.int .i64 e3, Value.int .i64 g3] 25)
  replace hS := hS.alloc (Obj.cells #[Value.int .i64 e3, Value.int .i64 g3] 25)
  generalize World.alloc wn _ = W3 at *
  generalize wn.heap.size = b3 at *
  have q0 := f1.cells 0
  simp at q0
  clear c1 c2 c3
  go_wp2_with (go_at_call 11; refine (awake11_c _ hS.tabs hS.marks).mono ?_; rintro e wn ⟨rfl, hb⟩; (replace hS := hS.go hb); clear hb)
  go_ret
  exact ⟨rfl, hS.bel⟩
set_option maxRecDepth 100000 in
set_option maxHeartbeats 1000000 in
theorem lexTwo_second (A B : ByteArray) (hA : A.size ≤ 5000) (hB : B.size ≤ 5000) (c f : Int) (hc : c ≠ 0) (hf0 : 0 ≤ f) (hf1 : f ≤ 5000) (w : World) (ht : Tabs w) (hm : MarksIn w)
    (c1 : ∀ w, Tabs w → MarksIn w → Calls Tryd.prog 8 #[.string A] w fun e w' => Below w.heap.size w w' ∧ ∃ o n cap, e = .returned (.tuple #[.slice o n cap, .agg #[.int .i64 0, .int .i64 0]]))
    (c2 : ∀ w, Tabs w → MarksIn w → Calls Tryd.prog 8 #[.string B] w fun e w' => Below w.heap.size w w' ∧ e = .returned (.tuple #[.slice none 0 0, .agg #[.int .i64 c, .int .i64 f]]))
    (c3 : ∀ w, Tabs w → MarksIn w → Calls Tryd.prog 8 #[.string (A ++ ⟨#[10]⟩ ++ B)] w fun e w' => Below w.heap.size w w' ∧ e = .returned (.tuple #[.slice none 0 0, .agg #[.int .i64 c, .int .i64 (f + (A.size : Nat) + 1)]])) :
    Calls Tryd.prog 6 #[.string A, .string B] w fun e w' => e = .returned (.bool true) ∧ Below w.heap.size w w' := by
  have c' : ¬ (A.size : Int) > 5000 := by omega
  have d' : ¬ (B.size : Int) > 5000 := by omega
  have w1 : IntKind.i64.wrap (f + (A.size : Int)) = f + (A.size : Int) := by rw [IntKind.wrap_i64]; omega
  have w2 : IntKind.i64.wrap (f + (A.size : Int) + 1) = f + (A.size : Int) + 1 := by rw [IntKind.wrap_i64]; omega
  have hS := Sx.refl ht hm
  clear ht hm hA hB hf0 hf1
  go_enter Tryd.func6, Tryd.ntmps6
  go_upto_region 4 with (go_at_call 8; (with_reducible refine (c1 _ hS.tabs hS.marks).mono ?_); rintro e wn ⟨hb, o1, n1, k1, rfl⟩; (replace hS := hS.go hb); clear hb)
  have f1 := Blk.new wn #[Value.int .i64 0, Value.int .i64 0] 25
  replace hS := hS.alloc (Obj.cells #[Value.int .i64 0, Value.int .i64 0] 25)
  generalize World.alloc wn _ = W1 at *
  generalize wn.heap.size = b1 at *
  go_upto_region 5 with (go_at_call 8; (with_reducible refine (c2 _ hS.tabs hS.marks).mono ?_); rintro e wn ⟨hb, rfl⟩; (replace hS := hS.go hb); (replace f1 := f1.go hb); clear hb)
  have f2 := Blk.new wn #[Value.int .i64 c, Value.int .i64 f] 25
  replace f1 := f1.alloc (Obj.cells #[Value.int .i64 c, Value.int .i64 f] 25)
  replace hS := hS.alloc (Obj.cells #[Value.int .i64 c, Value.int .i64 f] 25)
  generalize World.alloc wn _ = W2 at *
  generalize wn.heap.size = b2 at *
  go_upto_region 6 with (go_at_call 8; (with_reducible refine (c3 _ hS.tabs hS.marks).mono ?_); rintro e wn ⟨hb, rfl⟩; (replace hS := hS.go hb); (replace f1 := f1.go hb); (replace f2 := f2.go hb); clear hb)
  have f3 := Blk.new wn #[Value.int .i64 c, Value.int .i64 (f + (A.size : Nat) + 1)] 25
  replace f1 := f1.alloc (Obj.cells #[Value.int .i64 c, Value.int .i64 (f + (A.size : Nat) + 1)] 25)
  replace f2 := f2.alloc (Obj.cells #[Value.int .i64 c, Value.int .i64 (f + (A.size : Nat) + 1)] 25)
  replace hS := hS.alloc (Obj.cells #[Value.int .i64 c, Value.int .i64 (f + (A.size : Nat) + 1)] 25)
  generalize World.alloc wn _ = W3 at *
  generalize wn.heap.size = b3 at *
  have q0 := f1.cells 0
  have q1 := f2.cells 0
  have q2 := f2.cells 1
  have q3 := f3.cells 0
  have q4 := f3.cells 1
  simp at q0 q1 q2 q3 q4
  clear c1 c2 c3
  go_wp2_with (go_at_call 11; refine (awake11_c _ hS.tabs hS.marks).mono ?_; rintro e wn ⟨rfl, hb⟩; (replace hS := hS.go hb); clear hb)
  go_ret
  exact ⟨rfl, hS.bel⟩
end Go.Proofs.YtfjkkndmngaaiaaDoor.W
