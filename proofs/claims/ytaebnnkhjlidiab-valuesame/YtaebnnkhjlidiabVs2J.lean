import Derived.Test.YtaebnnkhjlidiabVs1J
import Derived.Test.YtaebnnkhjlidiabBase27
/- Values in words, whatever their kind: Box, Unbox. -/
namespace Go.Proofs.Ytaebnnkhjlidiab.W
open Go.ChangeShapes Go.WideShapes Go.RowKit Go.Shelf
set_option linter.unusedVariables false
/-- a value -/
structure Pl where
  kd : Int
  i : Int
  bi : Int
  t : ByteArray
  re : Int
def Pl.v (x : Pl) : Value := .agg #[.int .i64 x.kd, .int .i64 x.i, .int .u64 x.bi, .string x.t, .int .u64 x.re]
/-- a NaN is Canon -/
def Pl.can (x : Pl) : Pl := { x with bi := fltW x.bi }
def pNil : Pl := ⟨0, 0, 0, ⟨#[]⟩, 0⟩
def pBool (b : Bool) : Pl := ⟨1, if b = true then 1 else 0, 0, ⟨#[]⟩, 0⟩
def pInt (i : Int) : Pl := ⟨2, i, 0, ⟨#[]⟩, 0⟩
def pFlt (b : Int) : Pl := ⟨3, 0, b, ⟨#[]⟩, 0⟩
def pTxt (t : ByteArray) : Pl := ⟨4, 0, 0, t, 0⟩
def pRow (w : Nat) : Pl := ⟨9, 0, 0, ⟨#[]⟩, w⟩
theorem flt0 : fltW 0 = 0 := by decide
/-- the word w is of the value x -/
def Un (H : List (Option Hc)) (w : Nat) (x : Pl) : Prop :=
  (x = pNil ∧ w = 18444492273895866368) ∨ (∃ b, x = pBool b ∧ (w : Int) = boolW b) ∨ (∃ i, x = pInt i ∧ IsInt H w i) ∨ (∃ b, x = pFlt b ∧ 0 ≤ b ∧ b < 18446744073709551616 ∧ (w : Int) = fltW b) ∨ (∃ t, x = pTxt t ∧ IsTxt H w t) ∨ (∃ id, x = pRow w ∧ w = hw id ∧ id < 281474976710656 ∧ H[id]? = some (some (.row [])))
theorem Un.ext {H H' : List (Option Hc)} {w : Nat} {x : Pl} (h : Un H w x) (he : Ext H H') : Un H' w x := by
  rcases h with h | h | ⟨i, e, h⟩ | h | ⟨t, e, h⟩ | ⟨id, e1, e2, e3, h⟩
  · exact .inl h
  · exact .inr (.inl h)
  · exact .inr (.inr (.inl ⟨i, e, h.ext he⟩))
  · exact .inr (.inr (.inr (.inl h)))
  · exact .inr (.inr (.inr (.inr (.inl ⟨t, e, h.ext he⟩))))
  · exact .inr (.inr (.inr (.inr (.inr ⟨id, e1, e2, e3, he _ _ h⟩))))
/-- how two values compare -/
def eqP (x y : Pl) : Bool := (x.kd == y.kd) && ((x.i == y.i) && ((x.bi == y.bi) && ((x.t.toList == y.t.toList) && (x.re == y.re))))
theorem eq_run (x y : Pl) (w : World) : (binOp .eql 40 x.v y.v).run Try.prog w = .ok (.bool (eqP x y)) w := by
  unfold Pl.v eqP
  cases h1 : x.kd == y.kd <;> cases h2 : x.i == y.i <;> cases h3 : x.bi == y.bi <;> cases h4 : x.t.toList == y.t.toList <;> cases h5 : x.re == y.re <;> simp [go_sem, h1, h2, h3, h4, h5]
theorem eq_guard (x y : Pl) (o p : Operand) (w : World) : (eqGuard .eql 40 o p x.v y.v).run Try.prog w = .ok () w := by
  unfold Pl.v
  exact run_eqGuard_agg w .eql _ o p _ _ (by kernel_rfl)
section
variable {W0 W W1 W' : World} {hb : Nat} {H : List (Option Hc)} {u : Nat} {K : Nat → Prop}
theorem unbox_tx {S : Nat → Prop} (q : HSt W S hb H u) (w : Nat) (t : ByteArray) (h : IsTxt H w t) :
    Calls Try.prog 14 #[.pointer (some ⟨hb, 0, none⟩), .int .u64 w] W fun e w' => e = .returned (.tuple #[.agg #[.int .i64 4, .int .i64 0, .int .u64 0, .string t, .int .u64 0], .int .i64 0]) ∧ Below W.heap.size W w' := by
  rcases h with ⟨h1, h2⟩ | ⟨id, rfl, h2, h3⟩
  · rw [h2]; exact unbox_stext t h1 _ W
  · obtain ⟨sb, vc, T, l, _⟩ := q
    exact unbox_text l (hw id) (hw_lt id h2) (cls_hw id h2) id (hit_hw h2 h3) t h3
theorem unbox_any (q : Hf W0 W hb H u K) (w : Nat) (x : Pl) (h : Un H w x) :
    Calls Try.prog 14 #[.pointer (some ⟨hb, 0, none⟩), .int .u64 w] W fun e w' => e = .returned (.tuple #[x.can.v, .int .i64 0]) ∧ Below W.heap.size W w' := by
  obtain ⟨_, S, st, _⟩ := q
  rcases h with ⟨rfl, rfl⟩ | ⟨b, rfl, hw'⟩ | ⟨i, rfl, h⟩ | ⟨b, rfl, b0, b1, hw'⟩ | ⟨t, rfl, h⟩ | ⟨id, rfl, rfl, h2, h3⟩
  · have := unbox_nil (.pointer (some ⟨hb, 0, none⟩)) W
    unfold Pl.v Pl.can pNil
    simp only [flt0]
    exact this
  · rw [hw']
    cases b
    · have := unbox_false (.pointer (some ⟨hb, 0, none⟩)) W
      unfold Pl.v Pl.can pBool
      simp only [flt0]
      exact this
    · have := unbox_true (.pointer (some ⟨hb, 0, none⟩)) W
      unfold Pl.v Pl.can pBool
      simp only [flt0]
      exact this
  · have := unbox_int st w i h
    unfold Pl.v Pl.can pInt
    simp only [flt0]
    exact this
  · rw [hw']
    have hbd := fltW_bd b b0 b1
    have := unbox_flt (fltW b) hbd.1 hbd.2 (fltW_cls b) (.pointer (some ⟨hb, 0, none⟩)) W
    unfold Pl.v Pl.can pFlt
    exact this
  · have := unbox_tx st w t h
    unfold Pl.v Pl.can pTxt
    simp only [flt0]
    exact this
  · obtain ⟨sb, vc, T, l, _⟩ := st
    have := unbox_row l (hw id) (hw_lt id h2) (cls_hw id h2) id (hit_hw h2 h3) [] h3
    unfold Pl.v Pl.can pRow
    simp only [flt0]
    exact this
/-- values that are no things -/
def FitV (x : Pl) : Prop := x = pNil ∨ (∃ b, x = pBool b) ∨ (∃ i, x = pInt i ∧ -9223372036854775808 ≤ i ∧ i ≤ 9223372036854775807) ∨ (∃ b, x = pFlt b ∧ 0 ≤ b ∧ b < 18446744073709551616) ∨ (∃ t, x = pTxt t ∧ t.size ≤ 1000)
def BoxP (W0 W1 : World) (hb : Nat) (H : List (Option Hc)) (u : Nat) (K : Nat → Prop) (x : Pl) (e : Ending) (w' : World) : Prop := ∃ (w : Nat) (H' : List (Option Hc)), e = .returned (.tuple #[.int .u64 (w : Nat), .int .i64 0]) ∧ Hf W0 w' hb H' u K ∧ Ext H H' ∧ Un H' w x ∧ sumH H' ≤ sumH H + 126 ∧ H'.length ≤ H.length + 1 ∧ w < 18446744073709551616 ∧ Upd (Ch W0 K) W1 w'
theorem box_any (q : Hf W0 W1 hb H u K) (vr : Value) (rs : List Nat) (hr : WordsAt W1 vr rs) (x : Pl) (hx : FitV x) (hf : sumH H + 126 ≤ u) (hH : H.length ≤ 1000000) :
    Calls Try.prog 12 #[.pointer (some ⟨hb, 0, none⟩), x.v, vr] W1 (BoxP W0 W1 hb H u K x) := by
  rcases hx with rfl | ⟨b, rfl⟩ | ⟨i, rfl, i0, i1⟩ | ⟨b, rfl, b0, b1⟩ | ⟨t, rfl, ht⟩
  · refine (box_nil (.pointer (some ⟨hb, 0, none⟩)) vr W1).mono ?_
    rintro e w' ⟨rfl, hB⟩
    exact ⟨18444492273895866368, H, rfl, q.below' hB, Ext.refl _, .inl ⟨rfl, rfl⟩, by omega, by omega, by omega, Upd.of_below hB⟩
  · refine (box_bool (.pointer (some ⟨hb, 0, none⟩)) vr b _ rfl W1).mono ?_
    rintro e w' ⟨rfl, hB⟩
    have hbd : 0 ≤ boolW b ∧ boolW b < 18446744073709551616 := by cases b <;> decide
    exact ⟨(boolW b).toNat, H, by rw [Int.toNat_of_nonneg hbd.1], q.below' hB, Ext.refl _, .inr (.inl ⟨b, rfl, Int.toNat_of_nonneg hbd.1⟩), by omega, by omega, by omega, Upd.of_below hB⟩
  · refine (boxI q vr rs hr i i0 i1 (by omega) hH).mono ?_
    rintro e w' ⟨w, H', rfl, h1, h2, h3, h4, h5, _, h6, h7⟩
    have hn : nI i ≤ 2 := by unfold nI; split <;> omega
    exact ⟨w, H', rfl, h1, h2, .inr (.inr (.inl ⟨i, rfl, h3⟩)), by omega, h5, h6, h7⟩
  · refine (boxF q vr b b0 b1).mono ?_
    rintro e w' ⟨w, H', rfl, h1, h2, h3, h4, h5, _, h6, h7⟩
    exact ⟨w, H', rfl, h1, h2, .inr (.inr (.inr (.inl ⟨b, rfl, b0, b1, h3⟩))), by omega, h5, h6, h7⟩
  · have hn := tn_le t 1000 ht
    refine (boxS q vr rs hr t (by omega) (by omega) hH).mono ?_
    rintro e w' ⟨w, H', rfl, h1, h2, h3, h4, h5, _, h6, h7⟩
    have hn' : nT t ≤ tneed t := by unfold nT; split <;> omega
    exact ⟨w, H', rfl, h1, h2, .inr (.inr (.inr (.inr (.inl ⟨t, rfl, h3⟩)))), by omega, h5, h6, h7⟩
/-- an empty row -/
theorem row_any (q : Hf W0 W1 hb H u K) (vr : Value) (rs : List Nat) (hr : WordsAt W1 vr rs) (hf : sumH H + 1 ≤ u) (hH : H.length ≤ 1000000) :
    Calls Try.prog 8 #[.pointer (some ⟨hb, 0, none⟩), .agg #[.int .i64 9, .bool false, .int .i64 0, .string ⟨#[]⟩, .slice none 0 0, .slice none 0 0, .int .u64 0, .int .i64 0, .int .i64 0], vr] W1 fun e w' => ∃ (w : Nat) (H' : List (Option Hc)), e = .returned (.tuple #[.int .u64 (w : Nat), .int .i64 0]) ∧ Hf W0 w' hb H' u K ∧ Ext H H' ∧ Un H' w (pRow w) ∧ sumH H' ≤ sumH H + 126 ∧ H'.length ≤ H.length + 1 ∧ w < 18446744073709551616 ∧ Upd (Ch W0 K) W1 w' := by
  have hn : (Hc.row []).need = 1 := by decide
  refine (hf_row q [] (by simp) (by simp) (by simp) none 0 (words_nil _ none 0) (by simp) (by omega) vr rs hr).mono ?_
  rintro e w' ⟨rfl, h1, h2⟩
  have h9 := lid_le H
  refine ⟨hw (lid H), _, rfl, h1, ext_put H _, .inr (.inr (.inr (.inr (.inr ⟨lid H, rfl, rfl, by omega, putH_self H _⟩)))), ?_, ?_, hw_lt _ (by omega), h2⟩
  · rw [putH_sum, hn]; omega
  · rw [putH_len]; split <;> omega
set_option maxRecDepth 100000 in
theorem same_any (q : Hf W0 W hb H u K) (a b : Nat) (x y : Pl) (hx : Un H a x) (hy : Un H b y) :
    Calls Try.prog 17 #[.pointer (some ⟨hb, 0, none⟩), .int .u64 a, .int .u64 b] W fun e w' => e = .returned (.tuple #[.bool (eqP x.can y.can), .int .i64 0]) ∧ Below W.heap.size W w' := by
  have ca := unbox_any q a x hx
  have cb := hid (fun w' (hB : Below W.heap.size W w') => unbox_any (q.below' hB) b y hy)
  have er := eq_run x.can y.can
  have eg := eq_guard x.can y.can
  generalize eqP x.can y.can = r at *
  generalize x.can = X at *
  generalize y.can = Y at *
  obtain ⟨k1, i1, b1, t1, r1⟩ := X
  obtain ⟨k2, i2, b2, t2, r2⟩ := Y
  simp only [Pl.v] at ca cb er eg
  clear q hx hy
  go_enter Try.func17, Try.ntmps17
  go_upto_region 2 with (go_at_call 14; (with_reducible refine ca.mono ?_); rintro e w1 ⟨rfl, hB1⟩; clear ca)
  have hB2 : Below W.heap.size W (w1.alloc (.cells #[.int .i64 k1, .int .i64 i1, .int .u64 b1, .string t1, .int .u64 r1] 40)) := hB1.alloc hB1.size _
  have f1 := World.alloc_heap_new w1 (.cells #[.int .i64 k1, .int .i64 i1, .int .u64 b1, .string t1, .int .u64 r1] 40)
  have lt1 : w1.heap.size < (w1.alloc (.cells #[.int .i64 k1, .int .i64 i1, .int .u64 b1, .string t1, .int .u64 r1] 40)).heap.size := by rw [World.size_alloc]; exact Nat.lt_succ_self _
  have cc := cb.out _ hB2
  clear cb hB1
  generalize w1.heap.size = xb at *
  generalize w1.alloc (.cells #[.int .i64 k1, .int .i64 i1, .int .u64 b1, .string t1, .int .u64 r1] 40) = W3 at *
  go_upto_region 5 with (go_at_call 14; (with_reducible refine cc.mono ?_); rintro e w4 ⟨rfl, hB4⟩; clear cc)
  have hB5 : Below W.heap.size W (w4.alloc (.cells #[.int .i64 k2, .int .i64 i2, .int .u64 b2, .string t2, .int .u64 r2] 40)) := (hB2.trans (hB4.mono hB2.size)).alloc (Nat.le_trans hB2.size hB4.size) _
  have fx : (w4.alloc (.cells #[.int .i64 k2, .int .i64 i2, .int .u64 b2, .string t2, .int .u64 r2] 40)).heap[xb]? = some (.cells #[.int .i64 k1, .int .i64 i1, .int .u64 b1, .string t1, .int .u64 r1] 40) := ((Below.heap_alloc w4 _ xb (Nat.lt_of_lt_of_le lt1 hB4.size)).trans (hB4.block xb lt1)).trans f1
  have fy := World.alloc_heap_new w4 (.cells #[.int .i64 k2, .int .i64 i2, .int .u64 b2, .string t2, .int .u64 r2] 40)
  have ex := fun j => cell_of_row _ xb j _ _ _ fx
  have ey := fun j => cell_of_row _ w4.heap.size j _ _ _ fy
  clear hB2 f1 hB4 fx fy lt1
  generalize w4.heap.size = yb at *
  generalize w4.alloc (.cells #[.int .i64 k2, .int .i64 i2, .int .u64 b2, .string t2, .int .u64 r2] 40) = W5 at *
  go_wp2
  go_ret2
  exact ⟨rfl, hB5⟩
end
end Go.Proofs.Ytaebnnkhjlidiab.W
