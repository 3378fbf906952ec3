import Derived.Test.YtgmimmdojkoppaaGreatDoorBase25
import Derived.Sort.Grow
import Derived.Shelf.SlSortCmp.QuietGrown
import Derived.Deep.RegionHeld3
import Derived.RowKit3
import Derived.Below
/- Contracts of package soft and of its reference: sums, differences, products, quotients, signs, floors, orders; one plain function says what both answer. -/
namespace Go.Proofs.YtgmimmdojkoppaaGreatDoor.W.Nu
open Go.ChangeShapes Go.WideShapes Go.RowKit

/-- what Neg answers -/
def negI (a : Int) : Int := if nanB a = true then 9221120237041090560 else if a < 9223372036854775808 then a + 9223372036854775808 else a - 9223372036854775808
theorem nan_turn (a : Int) : nanB (if a < 9223372036854775808 then a + 9223372036854775808 else a - 9223372036854775808) = nanB a := by
  unfold nanB
  split <;> congr 1 <;> (apply propext) <;> constructor <;> intro h <;> omega
theorem negI_range (a : Int) (h0 : 0 ≤ a) (h1 : a < 18446744073709551616) : 0 ≤ negI a ∧ negI a < 18446744073709551616 := by
  unfold negI; split <;> (try split) <;> omega
/-- what FromInt answers -/
def fromI (i : Int) : Int := (floatOfInt .f64 i : Nat)
theorem fromI_range (i : Int) : 0 ≤ fromI i ∧ fromI i < 18446744073709551616 := by
  have : floatOfInt .f64 i < 18446744073709551616 := write_lt (.number (i < 0) i.natAbs 0)
  unfold fromI; omega
theorem fromI_plain (i : Int) : fltW (floatOfInt .f64 i : Nat) = fromI i := by
  have : nanB (floatOfInt .f64 i : Nat) = false := nearest_plain _ _ _
  simp [fltW, this, fromI]
def lessI (a b : Int) : Bool := Ieee.double.order a.toNat b.toNat == some .lt
def equalI (a b : Int) : Bool := Ieee.double.order a.toNat b.toNat == some .eq
def lessEqI (a b : Int) : Bool := Ieee.double.order a.toNat b.toNat == some .lt || Ieee.double.order a.toNat b.toNat == some .eq

theorem run_same (src dst : TypeId) (x : Nat) (hs : (Tryz.prog.underlying src).isSome = true) (hd : Tryz.prog.underlying dst = some (.float .f64)) (w : World) :
    (convert src dst (.float .f64 x)).run Tryz.prog w = .ok (.float .f64 x) w := run_convert_float_float w src dst .f64 .f64 x x hs hd (by simp [floatToFloatBits])
set_option maxHeartbeats 800000 in
theorem softAdd_c (a b : Int) (w : World) :
    Calls Tryz.prog 158 #[.int .u64 a, .int .u64 b] w fun e w' => e = .returned (.int .u64 (opI .add a b)) ∧ ∃ m, w' = w.drewN m := by
  have hop := run_fop Tryz.prog .add (Or.inl rfl) 161 a.toNat b.toNat
  have hcv := fun x w => run_same 161 161 x (by rw [Tryz.underlying161]; rfl) Tryz.underlying161 w
  go_enter Tryz.func158, Tryz.ntmps158
  go_wp2_with (first | (go_at_call 137; refine (double_c _ _).mono ?_; rintro e w' ⟨rfl, rfl⟩) | (go_at_call 138; refine (pattern_c _ _).mono ?_; rintro e w' ⟨rfl, rfl⟩))
  go_ret
  exact ⟨ret_int (fltW_fres ..), _, rfl⟩
set_option maxHeartbeats 800000 in
theorem softSub_c (a b : Int) (w : World) :
    Calls Tryz.prog 102 #[.int .u64 a, .int .u64 b] w fun e w' => e = .returned (.int .u64 (opI .sub a b)) ∧ ∃ m, w' = w.drewN m := by
  have hop := run_fop Tryz.prog .sub (Or.inr (Or.inl rfl)) 161 a.toNat b.toNat
  have hcv := fun x w => run_same 161 161 x (by rw [Tryz.underlying161]; rfl) Tryz.underlying161 w
  go_enter Tryz.func102, Tryz.ntmps102
  go_wp2_with (first | (go_at_call 137; refine (double_c _ _).mono ?_; rintro e w' ⟨rfl, rfl⟩) | (go_at_call 138; refine (pattern_c _ _).mono ?_; rintro e w' ⟨rfl, rfl⟩))
  go_ret
  exact ⟨ret_int (fltW_fres ..), _, rfl⟩
set_option maxHeartbeats 800000 in
theorem softMul_c (a b : Int) (w : World) :
    Calls Tryz.prog 105 #[.int .u64 a, .int .u64 b] w fun e w' => e = .returned (.int .u64 (opI .mul a b)) ∧ ∃ m, w' = w.drewN m := by
  have hop := run_fop Tryz.prog .mul (Or.inr (Or.inr (Or.inl rfl))) 161 a.toNat b.toNat
  have hcv := fun x w => run_same 161 161 x (by rw [Tryz.underlying161]; rfl) Tryz.underlying161 w
  go_enter Tryz.func105, Tryz.ntmps105
  go_wp2_with (first | (go_at_call 137; refine (double_c _ _).mono ?_; rintro e w' ⟨rfl, rfl⟩) | (go_at_call 138; refine (pattern_c _ _).mono ?_; rintro e w' ⟨rfl, rfl⟩))
  go_ret
  exact ⟨ret_int (fltW_fres ..), _, rfl⟩
set_option maxHeartbeats 800000 in
theorem softFromInt_c (i : Int) (w : World) :
    Calls Tryz.prog 69 #[.int .i64 i] w fun e w' => e = .returned (.int .u64 (fromI i)) ∧ w' = w := by
  go_enter Tryz.func69, Tryz.ntmps69
  go_wp2_with (go_at_call 138; refine (pattern_c _ _).mono ?_; rintro e w' ⟨rfl, rfl⟩)
  go_ret
  exact ⟨ret_int (fromI_plain i), rfl⟩
set_option maxHeartbeats 800000 in
theorem softLess_c (a b : Int) (w : World) :
    Calls Tryz.prog 261 #[.int .u64 a, .int .u64 b] w fun e w' => e = .returned (.bool (lessI a b)) ∧ w' = w := by
  go_enter Tryz.func261, Tryz.ntmps261
  go_wp2_with (go_at_call 137; refine (double_c _ _).mono ?_; rintro e w' ⟨rfl, rfl⟩)
  go_ret
  exact ⟨rfl, rfl⟩
set_option maxHeartbeats 800000 in
theorem softEqual_c (a b : Int) (w : World) :
    Calls Tryz.prog 262 #[.int .u64 a, .int .u64 b] w fun e w' => e = .returned (.bool (equalI a b)) ∧ w' = w := by
  go_enter Tryz.func262, Tryz.ntmps262
  go_wp2_with (go_at_call 137; refine (double_c _ _).mono ?_; rintro e w' ⟨rfl, rfl⟩)
  go_ret
  exact ⟨rfl, rfl⟩
/-- does a double's whole part fit into 64 bits? -/
def fitsB (a : Int) : Bool := (Ieee.double.order a.toNat 14114281232179134464 == some .gt || Ieee.double.order a.toNat 14114281232179134464 == some .eq) && Ieee.double.order a.toNat 4890909195324358656 == some .lt
set_option maxHeartbeats 800000 in
theorem softTrunc_in (a v : Int) (hv : floatToIntVal .f64 a.toNat .i64 = some v) (hf : fitsB a = true) (w : World) :
    Calls Tryz.prog 67 #[.int .u64 a] w fun e w' => e = .returned (.tuple #[.int .i64 v, .int .i64 0]) ∧ w' = w := by
  have hc : ∀ w, (convert 161 2 (.float .f64 a.toNat)).run Tryz.prog w = .ok (.int .i64 v) w := fun w => run_convert_float_int w 161 2 .f64 .i64 a.toNat v (by rw [Tryz.underlying161]; rfl) Tryz.underlying2 hv
  unfold fitsB at hf
  rw [Bool.and_eq_true, Bool.or_eq_true] at hf
  obtain ⟨h1, h2⟩ := hf
  have h2' : FloatKind.f64.format.order a.toNat 4890909195324358656 = some .lt := eq_of_beq h2
  rcases h1 with h1 | h1
  · have h1' : FloatKind.f64.format.order a.toNat 14114281232179134464 = some .gt := eq_of_beq h1
    clear h1 h2
    go_enter Tryz.func67, Tryz.ntmps67
    go_wp2_with (go_at_call 137; refine (double_c _ _).mono ?_; rintro e w' ⟨rfl, rfl⟩)
    go_ret2
    exact ⟨rfl, rfl⟩
  · have h1' : FloatKind.f64.format.order a.toNat 14114281232179134464 = some .eq := eq_of_beq h1
    clear h1 h2
    go_enter Tryz.func67, Tryz.ntmps67
    go_wp2_with (go_at_call 137; refine (double_c _ _).mono ?_; rintro e w' ⟨rfl, rfl⟩)
    go_ret2
    exact ⟨rfl, rfl⟩
set_option maxHeartbeats 800000 in
theorem softTrunc_out (a : Int) (hf : fitsB a = false) (w : World) :
    Calls Tryz.prog 67 #[.int .u64 a] w fun e w' => e = .returned (.tuple #[.int .i64 0, .int .i64 13]) ∧ w' = w := by
  have hf' : ((FloatKind.f64.format.order a.toNat 14114281232179134464 == some .gt || FloatKind.f64.format.order a.toNat 14114281232179134464 == some .eq) && FloatKind.f64.format.order a.toNat 4890909195324358656 == some .lt) = false := hf
  cases h1 : (FloatKind.f64.format.order a.toNat 14114281232179134464 == some .gt || FloatKind.f64.format.order a.toNat 14114281232179134464 == some .eq) with
  | false =>
    have h1a : (FloatKind.f64.format.order a.toNat 14114281232179134464 == some .gt) = false := by revert h1; cases (FloatKind.f64.format.order a.toNat 14114281232179134464 == some .gt) <;> simp
    have h1b : (FloatKind.f64.format.order a.toNat 14114281232179134464 == some .eq) = false := by revert h1; cases (FloatKind.f64.format.order a.toNat 14114281232179134464 == some .eq) <;> simp
    go_enter Tryz.func67, Tryz.ntmps67
    go_wp2_with (go_at_call 137; refine (double_c _ _).mono ?_; rintro e w' ⟨rfl, rfl⟩)
    go_ret2
    exact ⟨rfl, rfl⟩
  | true =>
    have h2 : (FloatKind.f64.format.order a.toNat 4890909195324358656 == some .lt) = false := by rw [h1] at hf'; simpa using hf'
    rw [Bool.or_eq_true] at h1
    rcases h1 with h1 | h1
    · have h1' : FloatKind.f64.format.order a.toNat 14114281232179134464 = some .gt := eq_of_beq h1
      clear h1 hf hf'
      go_enter Tryz.func67, Tryz.ntmps67
      go_wp2_with (go_at_call 137; refine (double_c _ _).mono ?_; rintro e w' ⟨rfl, rfl⟩)
      go_ret2
      exact ⟨rfl, rfl⟩
    · have h1' : FloatKind.f64.format.order a.toNat 14114281232179134464 = some .eq := eq_of_beq h1
      clear h1 hf hf'
      go_enter Tryz.func67, Tryz.ntmps67
      go_wp2_with (go_at_call 137; refine (double_c _ _).mono ?_; rintro e w' ⟨rfl, rfl⟩)
      go_ret2
      exact ⟨rfl, rfl⟩
end Go.Proofs.YtgmimmdojkoppaaGreatDoor.W.Nu
/- Worlds that have only grown: so many draws further, with new blocks behind the old ones. -/
namespace Go.Proofs.YtgmimmdojkoppaaGreatDoor.W.Nu
open Go.ChangeShapes Go.WideShapes Go.RowKit

/-- w' is w, some draws further, with new blocks behind the old ones -/
def Gr (w w' : World) : Prop := ∃ q os, w' = Sort.grow (w.drewN q) os
theorem Gr.refl (w : World) : Gr w w := ⟨0, #[], by rw [Sort.grow_empty, World.drewN_zero]⟩
theorem Gr.trans {a b c : World} (h : Gr a b) (k : Gr b c) : Gr a c := by
  obtain ⟨q, os, rfl⟩ := h
  obtain ⟨q', os', rfl⟩ := k
  refine ⟨q + q', os ++ os', ?_⟩
  show Sort.grow (Sort.grow ((a.drewN q).drewN q') os) os' = _
  rw [Sort.grow_grow, World.drewN_drewN]
theorem Gr.alloc {a b : World} (h : Gr a b) (o : Obj) : Gr a (b.alloc o) := h.trans ⟨0, #[o], by rw [Sort.alloc_eq_grow, World.drewN_zero]⟩
theorem Gr.draw {a b : World} (h : Gr a b) (n : Nat) : Gr a (b.drewN n) := h.trans ⟨n, #[], by rw [Sort.grow_empty]⟩
theorem Gr.drew {a b : World} (h : Gr a b) : Gr a b.drew := h.draw 1
theorem Gr.of_same {a b : World} (m : Nat) (h : b = a.drewN m) : Gr a b := ⟨m, #[], by rw [h, Sort.grow_empty]⟩
theorem Gr.store {a b : World} (h : Gr a b) {p : Addr} (hp : a.heap.size ≤ p.block) (v : Value) : Gr a (b.setCell p v) := by
  obtain ⟨q, os, rfl⟩ := h
  have e := fun f => Sort.modify_append_right a.heap os p.block f (by exact hp)
  exact ⟨q, _, by unfold World.setCell Sort.grow; exact congrArg (fun h => ({ a.drewN q with heap := h } : World)) (e _)⟩
theorem Gr.size {a b : World} (h : Gr a b) : a.heap.size ≤ b.heap.size := by
  obtain ⟨q, os, rfl⟩ := h
  rw [Sort.size_grow]
  exact Nat.le_add_right _ _
theorem Gr.old {a b : World} (h : Gr a b) {k : Nat} (hk : k < a.heap.size) : b.heap[k]? = a.heap[k]? := by
  obtain ⟨q, os, rfl⟩ := h
  exact Sort.heap_grow_old _ _ (by exact hk)
theorem Gr.below {a b : World} (h : Gr a b) : Below a.heap.size a b := by
  refine ⟨?_, ?_, ?_, h.size, fun k hk => h.old hk⟩ <;> (obtain ⟨q, os, rfl⟩ := h; rfl)
theorem Gr.frozen {a b : World} (h : Gr a b) {n i : Nat} (hn : n < a.heap.size) : b.frozen? ⟨n, i, none⟩ = a.frozen? ⟨n, i, none⟩ := by
  simp only [World.frozen?, h.old hn]
theorem cell_lt {w : World} {n i : Nat} {v : Value} (h : w.cell? ⟨n, i, none⟩ = some v) : n < w.heap.size := by
  false_or_by_contra
  rename_i g
  have e : w.heap[n]? = none := Array.getElem?_eq_none (by omega)
  simp [World.cell?, e] at h
theorem Gr.cells {a b : World} (h : Gr a b) {n : Nat} {c : Array Value} (f : ∀ i, a.cell? ⟨n, i, none⟩ = c[i]?) (hc : 0 < c.size) : ∀ i, b.cell? ⟨n, i, none⟩ = c[i]? := by
  have hn : n < a.heap.size := cell_lt (i := 0) (v := c[0]) (by rw [f 0]; simp [hc])
  intro i
  rw [← f i]
  exact World.cell?_of_block (w := a) (h.old hn)
theorem Gr.of_alloc {a b : World} {o : Obj} (h : Gr (a.alloc o) b) : Gr a b := ((Gr.refl a).alloc o).trans h
theorem Gr.of_drew {a b : World} (h : Gr a.drew b) : Gr a b := (Gr.refl a).drew.trans h
theorem Gr.new {a b : World} {c : Array Value} {t : TypeId} (h : Gr (a.alloc (.cells c t)) b) (hc : 0 < c.size) : ∀ i, b.cell? ⟨a.heap.size, i, none⟩ = c[i]? :=
  h.cells (fun i => World.cell?_alloc_at c t _ i rfl) hc
theorem Gr.thaw {a b : World} (h : Gr a b) {n : Nat} {c : Array Value} (f : ∀ i, a.cell? ⟨n, i, none⟩ = c[i]?) (hc : 0 < c.size) (z : ∀ i, a.frozen? ⟨n, i, none⟩ = false) : ∀ i, b.frozen? ⟨n, i, none⟩ = false := by
  have hn : n < a.heap.size := cell_lt (i := 0) (v := c[0]) (by rw [f 0]; simp [hc])
  intro i
  rw [h.frozen hn]
  exact z i
theorem cells_alloc {w : World} {n : Nat} {c : Array Value} (o : Obj) (f : ∀ i, w.cell? ⟨n, i, none⟩ = c[i]?) (hc : 0 < c.size) : ∀ i, (w.alloc o).cell? ⟨n, i, none⟩ = c[i]? := ((Gr.refl w).alloc o).cells f hc
theorem size_alloc (w : World) (o : Obj) : (w.alloc o).heap.size = w.heap.size + 1 := by rw [Sort.alloc_eq_grow, Sort.size_grow]; rfl
theorem frozen_new (w : World) (c : Array Value) (t : TypeId) (n i : Nat) (hn : n = w.heap.size) : (w.alloc (.cells c t)).frozen? ⟨n, i, none⟩ = false := by
  rw [frozen?_alloc_cells, World.frozen?]
  have : w.heap[n]? = none := Array.getElem?_eq_none (by omega)
  rw [this]
/-- a new block -/
theorem Gr.one {w w' : World} {A : Array Value} {s : TypeId} (h : Gr (w.alloc (.cells A s)) w') (hA : 0 < A.size) :
    (∀ i, w'.cell? ⟨w.heap.size, i, none⟩ = A[i]?) ∧ (∀ i, w'.frozen? ⟨w.heap.size, i, none⟩ = false) ∧ Gr w w' :=
  ⟨h.new hA, h.thaw (fun i => World.cell?_alloc_at A s _ i rfl) hA (fun i => frozen_new w A s _ i rfl), h.of_alloc⟩
/-- two new blocks -/
theorem Gr.two {w w' : World} {A B : Array Value} {s t : TypeId} (h : Gr ((w.alloc (.cells A s)).alloc (.cells B t)) w') (hA : 0 < A.size) (hB : 0 < B.size) :
    (∀ i, w'.cell? ⟨w.heap.size, i, none⟩ = A[i]?) ∧ (∀ i, w'.cell? ⟨w.heap.size + 1, i, none⟩ = B[i]?) ∧ Gr w w' := by
  refine ⟨h.cells (cells_alloc _ (fun i => World.cell?_alloc_at A s _ i rfl) hA) hA, ?_, h.of_alloc.of_alloc⟩
  have e := h.new hB
  rwa [size_alloc] at e
/-- two new blocks, the second one to be written -/
theorem Gr.pair {w w' : World} {A R : Array Value} {s r : TypeId} (h : Gr ((w.alloc (.cells A s)).alloc (.cells R r)) w') (hA : 0 < A.size) (hR : 0 < R.size) :
    (∀ i, w'.cell? ⟨w.heap.size, i, none⟩ = A[i]?) ∧ (∀ i, w'.cell? ⟨w.heap.size + 1, i, none⟩ = R[i]?) ∧ (∀ i, w'.frozen? ⟨w.heap.size + 1, i, none⟩ = false) ∧ Gr w w' := by
  obtain ⟨f1, f2, f3⟩ := h.two hA hR
  refine ⟨f1, f2, h.thaw (fun i => World.cell?_alloc_at R r (w.heap.size + 1) i (by rw [size_alloc])) hR (fun i => frozen_new _ R r _ i (by rw [size_alloc])), f3⟩
/-- three new blocks -/
theorem Gr.three {w w' : World} {A B R : Array Value} {s t r : TypeId} (h : Gr (((w.alloc (.cells A s)).alloc (.cells B t)).alloc (.cells R r)) w') (hA : 0 < A.size) (hB : 0 < B.size) (hR : 0 < R.size) :
    (∀ i, w'.cell? ⟨w.heap.size, i, none⟩ = A[i]?) ∧ (∀ i, w'.cell? ⟨w.heap.size + 1, i, none⟩ = B[i]?) ∧ (∀ i, w'.cell? ⟨w.heap.size + 1 + 1, i, none⟩ = R[i]?) ∧ (∀ i, w'.frozen? ⟨w.heap.size + 1 + 1, i, none⟩ = false) ∧ Gr w w' := by
  obtain ⟨f1, f2, f3⟩ := h.of_alloc.two hA hB
  have e := h.new hR
  have z : ∀ i, (((w.alloc (.cells A s)).alloc (.cells B t)).alloc (.cells R r)).frozen? ⟨w.heap.size + 1 + 1, i, none⟩ = false := by
    intro i
    rw [frozen?_alloc_cells, World.frozen?]
    have : ((w.alloc (.cells A s)).alloc (.cells B t)).heap[w.heap.size + 1 + 1]? = none := Array.getElem?_eq_none (by rw [size_alloc, size_alloc]; omega)
    rw [this]
  have c := fun i => World.cell?_alloc_at (w := (w.alloc (.cells A s)).alloc (.cells B t)) R r (w.heap.size + 1 + 1) i (by rw [size_alloc, size_alloc])
  rw [size_alloc, size_alloc] at e
  exact ⟨f1, f2, e, h.thaw c hR z, f3⟩
end Go.Proofs.YtgmimmdojkoppaaGreatDoor.W.Nu
/- Contracts of package num's and its reference's small functions: what they hand back, and that memory has only grown. -/
namespace Go.Proofs.YtgmimmdojkoppaaGreatDoor.W.Nu
open Go.ChangeShapes Go.WideShapes Go.RowKit

/-- a number as a double's pattern -/
def bitsI (a : Bool) (i u : Int) : Int := if a = true then fromI i else u
set_option maxHeartbeats 400000 in
theorem numWhole_c (i : Int) (w : World) :
    Calls Tryz.prog 160 #[.int .i64 i] w fun e w' => e = .returned (.agg #[.bool true, .int .i64 i, .int .u64 0]) ∧ Gr w w' := by
  go_enter Tryz.func160, Tryz.ntmps160
  go_wp2
  exact bodyPost_ret (v := .agg #[.bool true, .int .i64 i, .int .u64 0]) (by simp [results, Tryz.results160, go_sem]) rfl ⟨rfl, (Gr.refl _).alloc _⟩
set_option maxHeartbeats 400000 in
theorem numDouble_c (u : Int) (w : World) :
    Calls Tryz.prog 101 #[.int .u64 u] w fun e w' => e = .returned (.agg #[.bool false, .int .i64 0, .int .u64 u]) ∧ Gr w w' := by
  go_enter Tryz.func101, Tryz.ntmps101
  go_wp2
  exact bodyPost_ret (v := .agg #[.bool false, .int .i64 0, .int .u64 u]) (by simp [results, Tryz.results101, go_sem]) rfl ⟨rfl, (Gr.refl _).alloc _⟩
set_option maxHeartbeats 400000 in
theorem refused_c (n : Int) (w : World) :
    Calls Tryz.prog 159 #[.int .i64 n] w fun e w' => e = .returned (.tuple #[.agg #[.bool false, .int .i64 0, .int .u64 0], .int .i64 n]) ∧ Gr w w' := by
  go_enter Tryz.func159, Tryz.ntmps159
  go_wp2
  exact bodyPost_ret (v := .tuple #[.agg #[.bool false, .int .i64 0, .int .u64 0], .int .i64 n]) (by simp [results, Tryz.results159, go_sem]) rfl ⟨rfl, (Gr.refl _).alloc _⟩
/-- the kinds of two operands -/
def kindI (a b : Bool) : Int := if a = true then (if b = true then 0 else 1) else if b = true then 2 else 3
set_option maxHeartbeats 400000 in
theorem kinds_c (a b : Bool) (i u j v : Int) (w : World) :
    Calls Tryz.prog 99 #[.agg #[.bool a, .int .i64 i, .int .u64 u], .agg #[.bool b, .int .i64 j, .int .u64 v]] w fun e w' => e = .returned (.int .i64 (kindI a b)) ∧ Gr w w' := by
  cases a <;> cases b
  all_goals
    go_enter Tryz.func99, Tryz.ntmps99
    go_wp2
    go_ret
    exact ⟨rfl, ((Gr.refl _).alloc _).alloc _⟩
set_option maxHeartbeats 400000 in
theorem bitsOf_c (a : Bool) (i u : Int) (w : World) :
    Calls Tryz.prog 103 #[.agg #[.bool a, .int .i64 i, .int .u64 u]] w fun e w' => e = .returned (.int .u64 (bitsI a i u)) ∧ Gr w w' := by
  cases a
  all_goals
    go_enter Tryz.func103, Tryz.ntmps103
    go_wp2_with (go_at_call 69; refine (softFromInt_c _ _).mono ?_; rintro e w' ⟨rfl, rfl⟩)
    go_ret
    exact ⟨rfl, (Gr.refl _).alloc _⟩
end Go.Proofs.YtgmimmdojkoppaaGreatDoor.W.Nu
/- Plain facts on whole numbers of 64 bits: what fits, wrapped sums and products, quotients rounded down. No Go in sight but a result's parts. -/
namespace Go.Proofs.YtgmimmdojkoppaaGreatDoor.W.Nu

/-- a result's parts: is it whole, the whole number, the pattern, the error -/
structure Res where
  w : Bool
  i : Int
  u : Int
  e : Int
def okW (n : Int) : Res := ⟨true, n, 0, 0⟩
def okD (u : Int) : Res := ⟨false, 0, u, 0⟩
def bad (e : Int) : Res := ⟨false, 0, 0, e⟩
/-- a whole number that fits, or the error -/
def fitR (n : Int) : Res := if -9223372036854775808 ≤ n ∧ n < 9223372036854775808 then okW n else bad 10
theorem fitR_in {n : Int} (h : -9223372036854775808 ≤ n ∧ n < 9223372036854775808) : fitR n = okW n := if_pos h
theorem fitR_out {n : Int} (h : ¬ (-9223372036854775808 ≤ n ∧ n < 9223372036854775808)) : fitR n = bad 10 := if_neg h

/-- Go's quotient and rest -/
theorem tdiv_spec (a b : Int) (hb : b ≠ 0) : b * a.tdiv b + a.tmod b = a ∧ (0 < b → -b < a.tmod b ∧ a.tmod b < b) ∧ (b < 0 → b < a.tmod b ∧ a.tmod b < -b) ∧ (0 ≤ a → 0 ≤ a.tmod b) ∧ (a ≤ 0 → a.tmod b ≤ 0) := by
  have h1 := Int.mul_tdiv_add_tmod a b
  have h2 : (a.tmod b).natAbs < b.natAbs := by rw [Int.natAbs_tmod]; exact Nat.mod_lt _ (by omega)
  refine ⟨h1, fun _ => by omega, fun _ => by omega, fun h => Int.tmod_nonneg b h, fun h => ?_⟩
  have : 0 ≤ (-a).tmod b := Int.tmod_nonneg b (by omega)
  rw [Int.neg_tmod] at this
  omega
/-! ### sizes and signs -/
def sizeI (i : Int) : Int := if i < 0 then -i else i
def fr (a b : Int) : Int := if ((decide (a < 0) != decide (b < 0)) && (sizeI a % sizeI b != 0)) = true then sizeI b - sizeI a % sizeI b else sizeI a % sizeI b
theorem sizeI_pos {b : Int} (hb : b ≠ 0) : 0 < sizeI b := by unfold sizeI; split <;> omega
/-- a product of sizes is the product's size -/
theorem size_mul (a b : Int) : sizeI a * sizeI b = (if (decide (a < 0) != decide (b < 0)) = true then -(a * b) else a * b) := by
  unfold sizeI
  by_cases h1 : a < 0 <;> by_cases h2 : b < 0 <;> simp [h1, h2, Int.neg_mul, Int.mul_neg]
theorem sign_mul (a b : Int) (ha : a ≠ 0) (hb : b ≠ 0) : (a * b < 0 ↔ (decide (a < 0) != decide (b < 0)) = true) ∧ a * b ≠ 0 := by
  have hne : a * b ≠ 0 := Int.mul_ne_zero ha hb
  refine ⟨?_, hne⟩
  have h := size_mul a b
  have h0 : 0 < sizeI a * sizeI b := Int.mul_pos (sizeI_pos ha) (sizeI_pos hb)
  rw [h] at h0
  split at h0
  · rename_i g; exact ⟨fun _ => g, fun _ => by omega⟩
  · rename_i g; exact ⟨fun h => by omega, fun h => absurd h g⟩

/-! ### wrapped -/
theorem wrap_cases (n : Int) : ∃ k : Int, IntKind.i64.wrap n = n + k * 18446744073709551616 ∧ -9223372036854775808 ≤ IntKind.i64.wrap n ∧ IntKind.i64.wrap n < 9223372036854775808 := by
  rw [IntKind.wrap_i64]
  refine ⟨-((n + 9223372036854775808) / 18446744073709551616), by omega, by omega, by omega⟩
theorem wrap_in {n : Int} (h : -9223372036854775808 ≤ n ∧ n < 9223372036854775808) : IntKind.i64.wrap n = n := by
  obtain ⟨k, h1, h2, h3⟩ := wrap_cases n
  omega
/-- a wrapped product that divides back to the factor, with the right sign, is the product -/
theorem mul_back (a b p : Int) (ha : a ≠ 0) (hb : b ≠ 0) (b0 : -9223372036854775808 ≤ b) (b1 : b < 9223372036854775808) (hp : IntKind.i64.wrap (a * b) = p)
    (hs : (decide (p < 0) != (decide (a < 0) != decide (b < 0))) = false) (hq : IntKind.i64.wrap (p.tdiv b) = a) : p = a * b := by
  obtain ⟨k, h1, h2, h3⟩ := wrap_cases (a * b)
  rw [hp] at h1 h2 h3
  obtain ⟨s1, s2⟩ := sign_mul a b ha hb
  obtain ⟨t1, t2, t3, t4, t5⟩ := tdiv_spec p b hb
  by_cases he : p = -9223372036854775808 ∧ b = -1
  · obtain ⟨rfl, rfl⟩ := he
    have e : (-9223372036854775808 : Int).tdiv (-1) = 9223372036854775808 := by decide
    rw [e] at hq
    have e2 : IntKind.i64.wrap 9223372036854775808 = -9223372036854775808 := by decide
    rw [e2] at hq
    subst hq
    revert hs; decide
  · have hr : -9223372036854775808 ≤ p.tdiv b ∧ p.tdiv b < 9223372036854775808 := by
      have hn : (p.tdiv b).natAbs = p.natAbs / b.natAbs := Int.natAbs_tdiv p b
      have hl : p.natAbs / b.natAbs ≤ p.natAbs := Nat.div_le_self _ _
      by_cases hm : p = -9223372036854775808
      · have : b ≠ -1 := fun h => he ⟨hm, h⟩
        by_cases h1' : b = 1
        · subst h1'; rw [Int.tdiv_one]; omega
        · have : 2 ≤ b.natAbs := by omega
          have : p.natAbs / b.natAbs ≤ p.natAbs / 2 := Nat.div_le_div_left this (by omega)
          omega
      · omega
    rw [wrap_in hr] at hq
    rw [hq, Int.mul_comm] at t1
    omega
theorem mul_in (a b : Int) (ha : a ≠ 0) (hb : b ≠ 0) (a0 : -9223372036854775808 ≤ a) (a1 : a < 9223372036854775808) :
    (decide (a * b < 0) != (decide (a < 0) != decide (b < 0))) = false ∧ IntKind.i64.wrap ((a * b).tdiv b) = a := by
  obtain ⟨s1, s2⟩ := sign_mul a b ha hb
  refine ⟨?_, ?_⟩
  · cases h : (decide (a < 0) != decide (b < 0)) with
    | true => rw [decide_eq_true (s1.2 h)]; rfl
    | false => rw [decide_eq_false (fun g => by rw [s1.1 g] at h; cases h)]; rfl
  · rw [Int.mul_tdiv_cancel _ hb]
    exact wrap_in ⟨a0, a1⟩
end Go.Proofs.YtgmimmdojkoppaaGreatDoor.W.Nu
/- Contracts of package num on two whole numbers. -/
namespace Go.Proofs.YtgmimmdojkoppaaGreatDoor.W.Nu
open Go.ChangeShapes Go.WideShapes Go.RowKit
/-- a result, as the calls hand it back -/
def resV (r : Res) : Value := .tuple #[.agg #[.bool r.w, .int .i64 r.i, .int .u64 r.u], .int .i64 r.e]

set_option maxHeartbeats 1000000 in
theorem addW_in (a b s : Int) (hs : IntKind.i64.wrap (a + b) = s) (hC : (s < a ∧ b < 0) ∨ (¬ s < a ∧ ¬ b < 0)) (w : World) :
    Calls Tryz.prog 157 #[.int .i64 a, .int .i64 b] w fun e w' => e = .returned (.tuple #[.agg #[.bool true, .int .i64 s, .int .u64 0], .int .i64 0]) ∧ Gr w w' := by
  rcases hC with ⟨h1, h2⟩ | ⟨h1, h2⟩
  all_goals
    go_enter Tryz.func157, Tryz.ntmps157
    go_wp2_with (go_at_call 160; refine (numWhole_c _ _).mono ?_; rintro e w' ⟨rfl, hg⟩; obtain ⟨fR, fz, hG⟩ := hg.one (Nat.zero_lt_succ _); clear hg)
    exact bodyPost_ret (v := .tuple #[.agg #[.bool true, .int .i64 s, .int .u64 0], .int .i64 0]) (by simp [results, Tryz.results157, go_sem, fR]) rfl ⟨rfl, ((hG.store (Nat.le_refl _) _).store (Nat.le_refl _) _).store (Nat.le_refl _) _⟩
set_option maxHeartbeats 1000000 in
theorem addW_out (a b s : Int) (hs : IntKind.i64.wrap (a + b) = s) (hC : (s < a ∧ ¬ b < 0) ∨ (¬ s < a ∧ b < 0)) (w : World) :
    Calls Tryz.prog 157 #[.int .i64 a, .int .i64 b] w fun e w' => e = .returned (.tuple #[.agg #[.bool false, .int .i64 0, .int .u64 0], .int .i64 10]) ∧ Gr w w' := by
  rcases hC with ⟨h1, h2⟩ | ⟨h1, h2⟩
  all_goals
    go_enter Tryz.func157, Tryz.ntmps157
    go_wp2_with (go_at_call 159; refine (refused_c _ _).mono ?_; rintro e w' ⟨rfl, hg⟩; obtain ⟨fR, fz, hG⟩ := hg.one (Nat.zero_lt_succ _); clear hg)
    exact bodyPost_ret (v := .tuple #[.agg #[.bool false, .int .i64 0, .int .u64 0], .int .i64 10]) (by simp [results, Tryz.results157, go_sem, fR]) rfl ⟨rfl, ((hG.store (Nat.le_refl _) _).store (Nat.le_refl _) _).store (Nat.le_refl _) _⟩
theorem addW_c (a b : Int) (a0 : -9223372036854775808 ≤ a) (a1 : a < 9223372036854775808) (b0 : -9223372036854775808 ≤ b) (b1 : b < 9223372036854775808) (w : World) :
    Calls Tryz.prog 157 #[.int .i64 a, .int .i64 b] w fun e w' => e = .returned (resV (fitR (a + b))) ∧ Gr w w' := by
  by_cases h : -9223372036854775808 ≤ a + b ∧ a + b < 9223372036854775808
  · rw [fitR_in h]
    exact addW_in a b (a + b) (wrap_in h) (by omega) w
  · rw [fitR_out h]
    obtain ⟨k, h1, h2, h3⟩ := wrap_cases (a + b)
    exact addW_out a b _ rfl (by omega) w
set_option maxHeartbeats 1000000 in
theorem subW_in (a b s : Int) (hs : IntKind.i64.wrap (a - b) = s) (hC : (a < s ∧ b < 0) ∨ (¬ a < s ∧ ¬ b < 0)) (w : World) :
    Calls Tryz.prog 100 #[.int .i64 a, .int .i64 b] w fun e w' => e = .returned (.tuple #[.agg #[.bool true, .int .i64 s, .int .u64 0], .int .i64 0]) ∧ Gr w w' := by
  rcases hC with ⟨h1, h2⟩ | ⟨h1, h2⟩
  all_goals
    go_enter Tryz.func100, Tryz.ntmps100
    go_wp2_with (go_at_call 160; refine (numWhole_c _ _).mono ?_; rintro e w' ⟨rfl, hg⟩; obtain ⟨fR, fz, hG⟩ := hg.one (Nat.zero_lt_succ _); clear hg)
    exact bodyPost_ret (v := .tuple #[.agg #[.bool true, .int .i64 s, .int .u64 0], .int .i64 0]) (by simp [results, Tryz.results100, go_sem, fR]) rfl ⟨rfl, ((hG.store (Nat.le_refl _) _).store (Nat.le_refl _) _).store (Nat.le_refl _) _⟩
set_option maxHeartbeats 1000000 in
theorem subW_out (a b s : Int) (hs : IntKind.i64.wrap (a - b) = s) (hC : (a < s ∧ ¬ b < 0) ∨ (¬ a < s ∧ b < 0)) (w : World) :
    Calls Tryz.prog 100 #[.int .i64 a, .int .i64 b] w fun e w' => e = .returned (.tuple #[.agg #[.bool false, .int .i64 0, .int .u64 0], .int .i64 10]) ∧ Gr w w' := by
  rcases hC with ⟨h1, h2⟩ | ⟨h1, h2⟩
  all_goals
    go_enter Tryz.func100, Tryz.ntmps100
    go_wp2_with (go_at_call 159; refine (refused_c _ _).mono ?_; rintro e w' ⟨rfl, hg⟩; obtain ⟨fR, fz, hG⟩ := hg.one (Nat.zero_lt_succ _); clear hg)
    exact bodyPost_ret (v := .tuple #[.agg #[.bool false, .int .i64 0, .int .u64 0], .int .i64 10]) (by simp [results, Tryz.results100, go_sem, fR]) rfl ⟨rfl, ((hG.store (Nat.le_refl _) _).store (Nat.le_refl _) _).store (Nat.le_refl _) _⟩
theorem subW_c (a b : Int) (a0 : -9223372036854775808 ≤ a) (a1 : a < 9223372036854775808) (b0 : -9223372036854775808 ≤ b) (b1 : b < 9223372036854775808) (w : World) :
    Calls Tryz.prog 100 #[.int .i64 a, .int .i64 b] w fun e w' => e = .returned (resV (fitR (a - b))) ∧ Gr w w' := by
  by_cases h : -9223372036854775808 ≤ a - b ∧ a - b < 9223372036854775808
  · rw [fitR_in h]
    exact subW_in a b (a - b) (wrap_in h) (by omega) w
  · rw [fitR_out h]
    obtain ⟨k, h1, h2, h3⟩ := wrap_cases (a - b)
    exact subW_out a b _ rfl (by omega) w
set_option maxHeartbeats 1000000 in
theorem mulW_zero (a b : Int) (hC : a = 0 ∨ ((a == 0) = false ∧ b = 0)) (w : World) :
    Calls Tryz.prog 104 #[.int .i64 a, .int .i64 b] w fun e w' => e = .returned (.tuple #[.agg #[.bool true, .int .i64 0, .int .u64 0], .int .i64 0]) ∧ Gr w w' := by
  rcases hC with rfl | ⟨h1, rfl⟩
  all_goals
    go_enter Tryz.func104, Tryz.ntmps104
    go_wp2_with (go_at_call 160; refine (numWhole_c _ _).mono ?_; rintro e w' ⟨rfl, hg⟩; obtain ⟨fR, fz, hG⟩ := hg.one (Nat.zero_lt_succ _); clear hg)
    exact bodyPost_ret (v := .tuple #[.agg #[.bool true, .int .i64 0, .int .u64 0], .int .i64 0]) (by simp [results, Tryz.results104, go_sem, fR]) rfl ⟨rfl, ((hG.store (Nat.le_refl _) _).store (Nat.le_refl _) _).store (Nat.le_refl _) _⟩
set_option maxHeartbeats 1000000 in
theorem mulW_in (a b p q : Int) (ha : (a == 0) = false) (hb : (b == 0) = false) (hb' : ¬ b = 0) (hp : IntKind.i64.wrap (a * b) = p) (hq : IntKind.i64.wrap (p.tdiv b) = q) (h1 : (decide (p < 0) != (decide (a < 0) != decide (b < 0))) = false) (h2 : (q != a) = false) (w : World) :
    Calls Tryz.prog 104 #[.int .i64 a, .int .i64 b] w fun e w' => e = .returned (.tuple #[.agg #[.bool true, .int .i64 p, .int .u64 0], .int .i64 0]) ∧ Gr w w' := by
  by_cases x1 : p < 0 <;> by_cases x2 : a < 0 <;> by_cases x3 : b < 0 <;> simp only [x1, x2, x3, decide_true, decide_false] at h1 <;> first | (exact absurd h1 (by decide)) | skip
  all_goals
    clear h1
    go_enter Tryz.func104, Tryz.ntmps104
    go_wp2_with (go_at_call 160; refine (numWhole_c _ _).mono ?_; rintro e w' ⟨rfl, hg⟩; obtain ⟨fR, fz, hG⟩ := hg.one (Nat.zero_lt_succ _); clear hg)
    exact bodyPost_ret (v := .tuple #[.agg #[.bool true, .int .i64 p, .int .u64 0], .int .i64 0]) (by simp [results, Tryz.results104, go_sem, fR]) rfl ⟨rfl, ((hG.store (Nat.le_refl _) _).store (Nat.le_refl _) _).store (Nat.le_refl _) _⟩
set_option maxHeartbeats 1000000 in
theorem mulW_out (a b p q : Int) (ha : (a == 0) = false) (hb : (b == 0) = false) (hb' : ¬ b = 0) (hp : IntKind.i64.wrap (a * b) = p) (hq : IntKind.i64.wrap (p.tdiv b) = q) (hC : (decide (p < 0) != (decide (a < 0) != decide (b < 0))) = true ∨ ((decide (p < 0) != (decide (a < 0) != decide (b < 0))) = false ∧ (q != a) = true)) (w : World) :
    Calls Tryz.prog 104 #[.int .i64 a, .int .i64 b] w fun e w' => e = .returned (.tuple #[.agg #[.bool false, .int .i64 0, .int .u64 0], .int .i64 10]) ∧ Gr w w' := by
  rcases hC with h1 | ⟨h1, h2⟩ <;> by_cases x1 : p < 0 <;> by_cases x2 : a < 0 <;> by_cases x3 : b < 0 <;> simp only [x1, x2, x3, decide_true, decide_false] at h1 <;> first | (exact absurd h1 (by decide)) | skip
  all_goals
    clear h1
    go_enter Tryz.func104, Tryz.ntmps104
    go_wp2_with (go_at_call 159; refine (refused_c _ _).mono ?_; rintro e w' ⟨rfl, hg⟩; obtain ⟨fR, fz, hG⟩ := hg.one (Nat.zero_lt_succ _); clear hg)
    exact bodyPost_ret (v := .tuple #[.agg #[.bool false, .int .i64 0, .int .u64 0], .int .i64 10]) (by simp [results, Tryz.results104, go_sem, fR]) rfl ⟨rfl, ((hG.store (Nat.le_refl _) _).store (Nat.le_refl _) _).store (Nat.le_refl _) _⟩
theorem mulW_c (a b : Int) (a0 : -9223372036854775808 ≤ a) (a1 : a < 9223372036854775808) (b0 : -9223372036854775808 ≤ b) (b1 : b < 9223372036854775808) (w : World) :
    Calls Tryz.prog 104 #[.int .i64 a, .int .i64 b] w fun e w' => e = .returned (resV (fitR (a * b))) ∧ Gr w w' := by
  by_cases ha : a = 0
  · subst ha
    rw [Int.zero_mul, fitR_in (by omega)]
    exact mulW_zero 0 b (Or.inl rfl) w
  · by_cases hb : b = 0
    · subst hb
      rw [Int.mul_zero, fitR_in (by omega)]
      exact mulW_zero a 0 (Or.inr ⟨by simpa using ha, rfl⟩) w
    · by_cases h : -9223372036854775808 ≤ a * b ∧ a * b < 9223372036854775808
      · rw [fitR_in h]
        obtain ⟨m1, m2⟩ := mul_in a b ha hb a0 a1
        exact mulW_in a b (a * b) a (by simpa using ha) (by simpa using hb) hb (wrap_in h) m2 m1 (by simp) w
      · rw [fitR_out h]
        refine mulW_out a b _ _ (by simpa using ha) (by simpa using hb) hb rfl rfl ?_ w
        cases h1 : (decide (IntKind.i64.wrap (a * b) < 0) != (decide (a < 0) != decide (b < 0))) with
        | true => exact Or.inl rfl
        | false =>
          refine Or.inr ⟨rfl, ?_⟩
          rw [bne_iff_ne]
          intro hq
          have := mul_back a b _ ha hb b0 b1 rfl h1 hq
          obtain ⟨k, h1, h2, h3⟩ := wrap_cases (a * b)
          omega
end Go.Proofs.YtgmimmdojkoppaaGreatDoor.W.Nu
