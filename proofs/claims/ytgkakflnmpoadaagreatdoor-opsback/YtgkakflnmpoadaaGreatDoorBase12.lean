import Derived.Test.YtgkakflnmpoadaaGreatDoorBase11
import Derived.Test.YtgkakflnmpoadaaGreatDoorBase10
import Derived.Deep.AppendSrc
import Derived.Test.YtgkakflnmpoadaaGreatDoorBase1
import Derived.Test.YtgkakflnmpoadaaGreatDoorBase0
/- Package ops: sums and products of any two numbers, in words; sameness. -/
namespace Go.Proofs.YtgkakflnmpoadaaGreatDoor.W.Nu
open Go.ChangeShapes Go.WideShapes Go.RowKit Go.Shelf
set_option linter.unusedVariables false
/-- what a reckoned number is, in a word -/
def IsRes (H : List (Option Hc)) (w : Nat) (r : Res) : Prop := (r.w = true ∧ IsInt H w r.i) ∨ (r.w = false ∧ (w : Int) = Go.Proofs.YtgkakflnmpoadaaGreatDoor.W.fltW r.u ∧ w < 18446744073709551616)
theorem IsRes.ext {H H' : List (Option Hc)} {w : Nat} {r : Res} (h : IsRes H w r) (he : Ext H H') : IsRes H' w r := by
  rcases h with ⟨h1, h2⟩ | h
  · exact .inl ⟨h1, h2.ext he⟩
  · exact .inr h
/-- behind an operator that reckons -/
def EP (W0 W1 : World) (hb : Nat) (H : List (Option Hc)) (u : Nat) (K : Nat → Prop) (r : Res) (e : Ending) (w' : World) : Prop := ∃ (w : Nat) (H' : List (Option Hc)), e = .returned (.tuple #[.int .u64 (w : Nat), .int .i64 r.e]) ∧ Hf W0 w' hb H' u K ∧ Ext H H' ∧ sumH H' ≤ sumH H + 2 ∧ H'.length ≤ H.length + 1 ∧ Upd (Ch W0 K) W1 w' ∧ w < 18446744073709551616 ∧ (r.e = 0 → IsRes H' w r) ∧ (r.e ≠ 0 → w = 0)
theorem EP.two {W0 W1 : World} {hb : Nat} {H : List (Option Hc)} {u : Nat} {K : Nat → Prop} {r : Res} : ∀ e w', EP W0 W1 hb H u K r e w' → ∃ x y, e = .returned (.tuple #[.int .u64 x, .int .i64 y]) := fun e w' ⟨w, H', h, _⟩ => ⟨_, _, h⟩
theorem EP.on {W0 W1 W2 W' : World} {hb : Nat} {H : List (Option Hc)} {u : Nat} {K : Nat → Prop} {r : Res} {e : Ending} (hB : Below W1.heap.size W1 W2) (h : EP W0 W2 hb H u K r e W') : EP W0 W1 hb H u K r e W' := by
  obtain ⟨w, H', h1, h2, h3, h4, h5, h6, h7⟩ := h
  exact ⟨w, H', h1, h2, h3, h4, h5, (Upd.of_below hB).trans' h6, h7⟩
theorem nI_le (n : Int) : nI n ≤ 2 := by unfold nI; split <;> omega
section
variable {W0 W : World} {hb : Nat} {H : List (Option Hc)} {u' : Nat} {K : Nat → Prop}
end
set_option maxRecDepth 100000 in
theorem same_v (W : World) (hb p q : Nat) (k i u : Int) (c1 : Calls Tryz.prog 14 #[.pointer (some ⟨hb, 0, none⟩), .int .u64 (p : Nat)] W fun e w' => e = .returned (.tuple #[.agg #[.int .i64 k, .int .i64 i, .int .u64 u, .string ⟨#[]⟩, .int .u64 0], .int .i64 0]) ∧ Below W.heap.size W w')
    (c2 : ∀ w, Below W.heap.size W w → Calls Tryz.prog 14 #[.pointer (some ⟨hb, 0, none⟩), .int .u64 (q : Nat)] w fun e w' => e = .returned (.tuple #[.agg #[.int .i64 k, .int .i64 i, .int .u64 u, .string ⟨#[]⟩, .int .u64 0], .int .i64 0]) ∧ Below w.heap.size w w') :
    Calls Tryz.prog 7 #[.pointer (some ⟨hb, 0, none⟩), .int .u64 (p : Nat), .int .u64 (q : Nat)] W fun e w' => e = .returned (.tuple #[.bool true, .int .i64 0]) ∧ Below W.heap.size W w' := by
  go_enter Tryz.func7, Tryz.ntmps7
  go_upto_region 2 with (go_at_call 14; (with_reducible refine c1.mono ?_); rintro e W1 ⟨rfl, hB1⟩; clear c1)
  have hB2 : Below W.heap.size W (W1.alloc (.cells #[.int .i64 k, .int .i64 i, .int .u64 u, .string ⟨#[]⟩, .int .u64 0] 46)) := hB1.alloc hB1.size _
  have e1 := World.cell?_alloc_new W1 #[.int .i64 k, .int .i64 i, .int .u64 u, .string ⟨#[]⟩, .int .u64 0] 46
  have c3 := c2 _ hB2
  replace hB2 := hid hB2
  clear hB1 c2
  generalize W1.heap.size = b1 at *
  generalize W1.alloc (.cells #[.int .i64 k, .int .i64 i, .int .u64 u, .string ⟨#[]⟩, .int .u64 0] 46) = W2 at *
  go_upto_region 7 with (go_at_call 14; (with_reducible refine c3.mono ?_); rintro e W3 ⟨rfl, hB3⟩; clear c3)
  have hB4 : Below W2.heap.size W2 (W3.alloc (.cells #[.int .i64 k, .int .i64 i, .int .u64 u, .string ⟨#[]⟩, .int .u64 0] 46)) := hB3.alloc hB3.size _
  have l1 : b1 < W2.heap.size := cell_lt (e1 0)
  replace e1 : ∀ j, (W3.alloc (.cells #[.int .i64 k, .int .i64 i, .int .u64 u, .string ⟨#[]⟩, .int .u64 0] 46)).cell? ⟨b1, j, none⟩ = #[.int .i64 k, .int .i64 i, .int .u64 u, .string ⟨#[]⟩, .int .u64 0][j]? := fun j => by rw [hB4.cell (p := ⟨b1, j, none⟩) l1]; exact e1 j
  have e2 := World.cell?_alloc_new W3 #[.int .i64 k, .int .i64 i, .int .u64 u, .string ⟨#[]⟩, .int .u64 0] 46
  have HB := hid (hB2.out.trans (hB4.mono hB2.out.size))
  clear hB3 hB4 hB2 l1
  generalize W3.heap.size = b2 at *
  generalize W3.alloc (.cells #[.int .i64 k, .int .i64 i, .int .u64 u, .string ⟨#[]⟩, .int .u64 0] 46) = W4 at *
  go_wp2
  go_ret2
  exact ⟨rfl, HB.out⟩
end Go.Proofs.YtgkakflnmpoadaaGreatDoor.W.Nu
/- Truths in words: Unbox, not. -/
namespace Go.Proofs.YtgkakflnmpoadaaGreatDoor.W.Nu
open Go.ChangeShapes Go.WideShapes Go.RowKit Go.Shelf
set_option linter.unusedVariables false
section
variable {W : World} {hb vb : Nat} {vw vr : Value}
end
end Go.Proofs.YtgkakflnmpoadaaGreatDoor.W.Nu
/- casketlaw10's box of any number; sameness of what was reckoned. -/
namespace Go.Proofs.YtgkakflnmpoadaaGreatDoor.W.Nu
open Go.ChangeShapes Go.WideShapes Go.RowKit Go.Shelf
set_option linter.unusedVariables false
def nw (a : Bool) (i : Int) : Int := if a = true then i else 0
def nd (a : Bool) (u : Int) : Int := if a = true then 0 else Go.Proofs.YtgkakflnmpoadaaGreatDoor.W.fltW u
section
variable {W0 W : World} {hb : Nat} {H : List (Option Hc)} {u' : Nat} {K : Nat → Prop}
set_option maxRecDepth 100000 in
theorem lbox_w (q : Hf W0 W hb H u' K) (vr : Value) (rs : List Nat) (hr : WordsAt W vr rs) (i u : Int) (h0 : -9223372036854775808 ≤ i) (h1 : i ≤ 9223372036854775807) (hf : sumH H + 2 ≤ u') (hH : H.length ≤ 1000000) :
    Calls Tryz.prog 5 #[.pointer (some ⟨hb, 0, none⟩), .agg #[.bool true, .int .i64 i, .int .u64 u], vr] W (LB W0 W hb H u' K (fun H' w => IsInt H' w i) (nI i)) := by
  have hB : Below W.heap.size W ((W.alloc (.cells #[.bool true, .int .i64 i, .int .u64 u] 24)).alloc (.cells #[.int .i64 2, .int .i64 i, .int .u64 0, .string ⟨#[]⟩, .int .u64 0] 46)) := ((Below.refl _ W).alloc (Nat.le_refl _) _).alloc (by rw [World.size_alloc]; omega) _
  have cx := (boxI (q.below' hB) vr rs (words_below hr hB) i h0 h1 hf hH).mono (fun e w' h => BPost.on hB h)
  obtain ⟨o1, cap1, hvr, -⟩ := id hr
  subst hvr
  clear q hr h0 h1 hf hH hB
  go_enter Tryz.func5, Tryz.ntmps5
  go_wp2_with (go_at_call 11; (with_reducible refine cx.mono ?_); rintro e w3 ⟨w, H', rfl, h3⟩; clear cx)
  go_ret2
  exact ⟨w, H', rfl, h3⟩
set_option maxRecDepth 100000 in
theorem lbox_d (q : Hf W0 W hb H u' K) (vr : Value) (i bi : Int) (h0 : 0 ≤ bi) (h1 : bi < 18446744073709551616) :
    Calls Tryz.prog 5 #[.pointer (some ⟨hb, 0, none⟩), .agg #[.bool false, .int .i64 i, .int .u64 bi], vr] W (LB W0 W hb H u' K (fun _ w => (w : Int) = Go.Proofs.YtgkakflnmpoadaaGreatDoor.W.fltW bi) 0) := by
  have hB : Below W.heap.size W ((W.alloc (.cells #[.bool false, .int .i64 i, .int .u64 bi] 24)).alloc (.cells #[.int .i64 3, .int .i64 0, .int .u64 bi, .string ⟨#[]⟩, .int .u64 0] 46)) := ((Below.refl _ W).alloc (Nat.le_refl _) _).alloc (by rw [World.size_alloc]; omega) _
  have cx := (boxF (q.below' hB) vr bi h0 h1).mono (fun e w' h => BPost.on hB h)
  clear q h0 h1 hB
  go_enter Tryz.func5, Tryz.ntmps5
  go_wp2_with (go_at_call 11; (with_reducible refine cx.mono ?_); rintro e w3 ⟨w, H', rfl, h3⟩; (replace h3 := hid h3); clear cx)
  go_ret2
  exact ⟨w, H', rfl, h3.out⟩
/-- behind the box of any number -/
def LN (W0 W1 : World) (hb : Nat) (H : List (Option Hc)) (u : Nat) (K : Nat → Prop) (a : Bool) (i v : Int) (e : Ending) (w' : World) : Prop := ∃ (w : Nat) (H' : List (Option Hc)), e = .returned (.tuple #[.int .u64 (w : Nat), .bool true]) ∧ Hf W0 w' hb H' u K ∧ Ext H H' ∧ IsNum H' w a i v ∧ sumH H' ≤ sumH H + 2 ∧ H'.length ≤ H.length + 1 ∧ Upd (Ch W0 K) W1 w'
theorem lbox_n (q : Hf W0 W hb H u' K) (vr : Value) (rs : List Nat) (hr : WordsAt W vr rs) (a : Bool) (i u : Int) (h0 : -9223372036854775808 ≤ i) (h1 : i ≤ 9223372036854775807) (u0 : 0 ≤ u) (u1 : u < 18446744073709551616) (hf : sumH H + 2 ≤ u') (hH : H.length ≤ 1000000) :
    Calls Tryz.prog 5 #[.pointer (some ⟨hb, 0, none⟩), .agg #[.bool a, .int .i64 i, .int .u64 u], vr] W (LN W0 W hb H u' K a (nw a i) (nd a u)) := by
  cases a
  · refine (lbox_d q vr i u u0 u1).mono ?_
    rintro e w' ⟨w, H', rfl, h1, h2, h3, h4, h5, h6, h7, h8⟩
    exact ⟨w, H', rfl, h1, h2, flt_num h3 h7, by omega, h5, h8⟩
  · refine (lbox_w q vr rs hr i u h0 h1 hf hH).mono ?_
    rintro e w' ⟨w, H', rfl, p1, p2, p3, p4, p5, p6, p7, p8⟩
    have := nI_le i
    exact ⟨w, H', rfl, p1, p2, .inl ⟨rfl, rfl, p3, h0, by show i < _; omega⟩, by omega, p5, p8⟩
theorem cells_upd {W' : World} {n : Nat} {A : Array Value} (hU : Upd (Ch W0 K) W W') (hk : K n) (hl : n < W.heap.size) (f : ∀ i, W.cell? ⟨n, i, none⟩ = A[i]?) : ∀ i, W'.cell? ⟨n, i, none⟩ = A[i]? := fun i => by
  rw [← f i]
  exact World.cell?_of_block (hU.block n hl (fun c => c.1 hk))
theorem cells_keep {W' : World} {n : Nat} {A : Array Value} (hB : Below W.heap.size W W') (hl : n < W.heap.size) (f : ∀ i, W.cell? ⟨n, i, none⟩ = A[i]?) : ∀ i, W'.cell? ⟨n, i, none⟩ = A[i]? := fun i => by
  rw [hB.cell (p := ⟨n, i, none⟩) hl]; exact f i
end
end Go.Proofs.YtgkakflnmpoadaaGreatDoor.W.Nu
/- Contracts of package num: the sign turned. -/
namespace Go.Proofs.YtgkakflnmpoadaaGreatDoor.W.Nu
open Go.ChangeShapes Go.WideShapes Go.RowKit
end Go.Proofs.YtgkakflnmpoadaaGreatDoor.W.Nu
/- Package ops: two doubles under whatever operator. -/
namespace Go.Proofs.YtgkakflnmpoadaaGreatDoor.W.Nu
open Go.ChangeShapes Go.WideShapes Go.RowKit Go.Shelf
set_option linter.unusedVariables false
section
variable {W : World} {hb vb : Nat} {vw vr : Value}
end
/-- what comes out of two doubles -/
def OKc (w c : Int) : Prop := (c = 0 ∧ 0 ≤ w ∧ w < 18446744073709551616 ∧ (Go.Proofs.YtgkakflnmpoadaaGreatDoor.W.cls w = 1 ∨ Go.Proofs.YtgkakflnmpoadaaGreatDoor.W.cls w = 4)) ∨ (w = 0 ∧ (c = 1 ∨ c = 51))
def NS (W : World) (e : Ending) (w' : World) : Prop := (∃ w c, e = .returned (.tuple #[.int .u64 w, .int .i64 c]) ∧ OKc w c) ∧ Below W.heap.size W w'
theorem NS.two {W : World} : ∀ e w', NS W e w' → ∃ x y, e = .returned (.tuple #[.int .u64 x, .int .i64 y]) := fun e w' ⟨⟨w, c, h, _⟩, _⟩ => ⟨w, c, h⟩
theorem NS.on {W W1 : World} {e : Ending} {w' : World} (hB : Below W.heap.size W W1) (h : NS W1 e w') : NS W e w' := ⟨h.1, hB.trans (h.2.mono hB.size)⟩
section
variable {W : World} {hb : Nat} {x y : Nat} {vr : Value} {rs : List Nat}
end
end Go.Proofs.YtgkakflnmpoadaaGreatDoor.W.Nu
/- Package ops: two doubles under whatever text; a double turned; frombits. -/
namespace Go.Proofs.YtgkakflnmpoadaaGreatDoor.W.Nu
open Go.ChangeShapes Go.WideShapes Go.RowKit Go.Shelf
set_option linter.unusedVariables false
theorem eg_fromPattern : ∀ args w, (callFunc 34 args).run Tryz.prog w = .ok (.enter 34 args) w := enters_of Tryz.func34 (by kernel_rfl) rfl
section
variable {W : World} {hb vb : Nat} {vw vr : Value} {R : Ending → World → Prop}
end
theorem find_frombits (x5 x6 x7 x8 x9 : Nat) : findL (opsL x5 x6 x7 x8 x9) ⟨#[102, 114, 111, 109, 98, 105, 116, 115]⟩ = some (.agg #[.int .i64 1, .func (.func 34) #[] #[]]) := by kernel_rfl
end Go.Proofs.YtgkakflnmpoadaaGreatDoor.W.Nu
/- Package ops: text, num and bits of numbers; Told of a number. -/
namespace Go.Proofs.YtgkakflnmpoadaaGreatDoor.W.Nu
open Go.ChangeShapes Go.WideShapes Go.RowKit Go.Shelf
set_option linter.unusedVariables false
theorem eg_toText : ∀ args w, (callFunc 27 args).run Tryz.prog w = .ok (.enter 27 args) w := enters_of Tryz.func27 (by kernel_rfl) rfl
theorem eg_toNumber : ∀ args w, (callFunc 28 args).run Tryz.prog w = .ok (.enter 28 args) w := enters_of Tryz.func28 (by kernel_rfl) rfl
theorem eg_pattern : ∀ args w, (callFunc 33 args).run Tryz.prog w = .ok (.enter 33 args) w := enters_of Tryz.func33 (by kernel_rfl) rfl
theorem find_text (x5 x6 x7 x8 x9 : Nat) : findL (opsL x5 x6 x7 x8 x9) ⟨#[116, 101, 120, 116]⟩ = some (.agg #[.int .i64 1, .func (.func 27) #[] #[]]) := by kernel_rfl
theorem find_num (x5 x6 x7 x8 x9 : Nat) : findL (opsL x5 x6 x7 x8 x9) ⟨#[110, 117, 109]⟩ = some (.agg #[.int .i64 1, .func (.func 28) #[] #[]]) := by kernel_rfl
theorem find_bits (x5 x6 x7 x8 x9 : Nat) : findL (opsL x5 x6 x7 x8 x9) ⟨#[98, 105, 116, 115]⟩ = some (.agg #[.int .i64 1, .func (.func 33) #[] #[]]) := by kernel_rfl
set_option maxRecDepth 100000 in
theorem told_i (i : Int) (T : ByteArray) (W : World) (ct : ∀ w, Below W.heap.size W w → Calls Tryz.prog 47 #[.agg #[.bool true, .int .i64 i, .int .u64 0]] w fun e w' => e = .returned (.string T) ∧ Below w.heap.size w w') :
    Calls Tryz.prog 15 #[.agg #[.int .i64 2, .int .i64 i, .int .u64 0, .string ⟨#[]⟩, .int .u64 0]] W fun e w' => e = .returned (.tuple #[.string T, .int .i64 0]) ∧ Below W.heap.size W w' := by
  have hG : Gr W (W.alloc (.cells #[.int .i64 2, .int .i64 i, .int .u64 0, .string ⟨#[]⟩, .int .u64 0] 46)) := (Gr.refl W).alloc _
  have e1 := World.cell?_alloc_new W #[.int .i64 2, .int .i64 i, .int .u64 0, .string ⟨#[]⟩, .int .u64 0] 46
  go_enter Tryz.func15, Tryz.ntmps15
  go_upto_region 1 with fail
  generalize W.alloc (.cells #[.int .i64 2, .int .i64 i, .int .u64 0, .string ⟨#[]⟩, .int .u64 0] 46) = W1 at *
  go_upto_region 11 with (go_at_call 46; (with_reducible refine (number_i i 0 0 _ _).mono ?_); rintro e W2 ⟨rfl, hg⟩; (replace hG := hG.trans hg); clear hg e1)
  have e2 := World.cell?_alloc_new W2 #[.bool true, .int .i64 i, .int .u64 0] 24
  have hB := (hG.alloc (.cells #[.bool true, .int .i64 i, .int .u64 0] 24)).below
  have c1 := ct _ hB
  have HB := hid hB
  clear hB ct hG
  generalize W2.heap.size = b2 at *
  generalize W2.alloc (.cells #[.bool true, .int .i64 i, .int .u64 0] 24) = W3 at *
  go_wp2_with (go_at_call 47; (with_reducible refine c1.mono ?_); rintro e W4 ⟨rfl, hB4⟩; clear c1)
  go_ret2
  exact ⟨rfl, HB.out.trans (hB4.mono HB.out.size)⟩
set_option maxRecDepth 100000 in
theorem told_f (u : Int) (T : ByteArray) (W : World) (ct : ∀ w, Below W.heap.size W w → Calls Tryz.prog 47 #[.agg #[.bool false, .int .i64 0, .int .u64 u]] w fun e w' => e = .returned (.string T) ∧ Below w.heap.size w w') :
    Calls Tryz.prog 15 #[.agg #[.int .i64 3, .int .i64 0, .int .u64 u, .string ⟨#[]⟩, .int .u64 0]] W fun e w' => e = .returned (.tuple #[.string T, .int .i64 0]) ∧ Below W.heap.size W w' := by
  have hG : Gr W (W.alloc (.cells #[.int .i64 3, .int .i64 0, .int .u64 u, .string ⟨#[]⟩, .int .u64 0] 46)) := (Gr.refl W).alloc _
  have e1 := World.cell?_alloc_new W #[.int .i64 3, .int .i64 0, .int .u64 u, .string ⟨#[]⟩, .int .u64 0] 46
  go_enter Tryz.func15, Tryz.ntmps15
  go_upto_region 1 with fail
  generalize W.alloc (.cells #[.int .i64 3, .int .i64 0, .int .u64 u, .string ⟨#[]⟩, .int .u64 0] 46) = W1 at *
  go_upto_region 11 with (go_at_call 46; (with_reducible refine (number_f 0 u 0 _ _).mono ?_); rintro e W2 ⟨rfl, hg⟩; (replace hG := hG.trans hg); clear hg e1)
  have e2 := World.cell?_alloc_new W2 #[.bool false, .int .i64 0, .int .u64 u] 24
  have hB := (hG.alloc (.cells #[.bool false, .int .i64 0, .int .u64 u] 24)).below
  have c1 := ct _ hB
  have HB := hid hB
  clear hB ct hG
  generalize W2.heap.size = b2 at *
  generalize W2.alloc (.cells #[.bool false, .int .i64 0, .int .u64 u] 24) = W3 at *
  go_wp2_with (go_at_call 47; (with_reducible refine c1.mono ?_); rintro e W4 ⟨rfl, hB4⟩; clear c1)
  go_ret2
  exact ⟨rfl, HB.out.trans (hB4.mono HB.out.size)⟩
theorem told_n (a : Bool) (i u : Int) (sx : (a = true ∧ u = 0) ∨ (a = false ∧ i = 0)) (T : ByteArray) (W : World) (ct : ∀ w, Below W.heap.size W w → Calls Tryz.prog 47 #[.agg #[.bool a, .int .i64 i, .int .u64 u]] w fun e w' => e = .returned (.string T) ∧ Below w.heap.size w w') :
    Calls Tryz.prog 15 #[.agg #[.int .i64 (kV a), .int .i64 i, .int .u64 u, .string ⟨#[]⟩, .int .u64 0]] W fun e w' => e = .returned (.tuple #[.string T, .int .i64 0]) ∧ Below W.heap.size W w' := by
  rcases sx with ⟨rfl, rfl⟩ | ⟨rfl, rfl⟩
  · exact told_i i T W ct
  · exact told_f u T W ct
theorem Told_g (W : World) (hb a : Nat) (k i u : Int) (s T : ByteArray) (cu : Calls Tryz.prog 14 #[.pointer (some ⟨hb, 0, none⟩), .int .u64 (a : Nat)] W fun e w'' => e = .returned (.tuple #[.agg #[.int .i64 k, .int .i64 i, .int .u64 u, .string s, .int .u64 0], .int .i64 0]) ∧ Below W.heap.size W w'')
    (ct : ∀ w, Below W.heap.size W w → Calls Tryz.prog 15 #[.agg #[.int .i64 k, .int .i64 i, .int .u64 u, .string s, .int .u64 0]] w fun e w' => e = .returned (.tuple #[.string T, .int .i64 0]) ∧ Below w.heap.size w w') :
    Calls Tryz.prog 8 #[.pointer (some ⟨hb, 0, none⟩), .int .u64 (a : Nat)] W fun e w' => e = .returned (.tuple #[.string T, .int .i64 0]) ∧ Below W.heap.size W w' := by
  go_enter Tryz.func8, Tryz.ntmps8
  go_upto_region 2 with (go_at_call 14; (with_reducible refine cu.mono ?_); rintro e W1 ⟨rfl, hB⟩; clear cu)
  have h1 := hB.alloc hB.size (.cells #[.int .i64 k, .int .i64 i, .int .u64 u, .string s, .int .u64 0] 46)
  have e1 := World.cell?_alloc_new W1 #[.int .i64 k, .int .i64 i, .int .u64 u, .string s, .int .u64 0] 46
  have c1 := ct _ h1
  have H1 := hid h1
  clear hB ct h1
  generalize W1.heap.size = b1 at *
  generalize W1.alloc (.cells #[.int .i64 k, .int .i64 i, .int .u64 u, .string s, .int .u64 0] 46) = W2 at *
  go_wp2_with (go_at_call 15; (with_reducible refine c1.mono ?_); rintro e W3 ⟨rfl, hB2⟩; clear c1)
  go_ret2
  exact ⟨rfl, H1.out.trans (hB2.mono H1.out.size)⟩
section
variable {W : World} {hb vb : Nat} {vw vr : Value} {R : Ending → World → Prop}
/-- ahead of a job of one value that was asked for its kind -/
theorem pre1k (q kd i b0 r0 : Int) (s0 : ByteArray) (an : Bool) (han : (kd == q) = an) (hv : ∀ k, W.cell? ⟨vb, k, none⟩ = #[.int .i64 kd, .int .i64 i, .int .u64 b0, .string s0, .int .u64 r0][k]?) :
    let W1 := W.alloc (.cells #[.pointer (some ⟨hb, 0, none⟩), vw, .slice (some ⟨vb, 0, none⟩) 1 1, vr] 80)
    Below W.heap.size W W1 ∧ Below W1.heap.size W1 (W1.alloc (.cells #[.int .i64 0] 3)) ∧
    Calls Tryz.prog 58 #[.agg #[.pointer (some ⟨hb, 0, none⟩), vw, .slice (some ⟨vb, 0, none⟩) 1 1, vr], .int .i64 q, .slice (some ⟨W1.heap.size, 0, none⟩) 1 1] (W1.alloc (.cells #[.int .i64 0] 3)) (fun e w' => e = .returned (.bool an) ∧ Below (W1.alloc (.cells #[.int .i64 0] 3)).heap.size (W1.alloc (.cells #[.int .i64 0] 3)) w') ∧
    (∀ w', Below W1.heap.size W1 w' → (∀ k, w'.cell? ⟨W.heap.size, k, none⟩ = #[.pointer (some ⟨hb, 0, none⟩), vw, .slice (some ⟨vb, 0, none⟩) 1 1, vr][k]?) ∧ (∀ k, w'.cell? ⟨vb, k, none⟩ = #[.int .i64 kd, .int .i64 i, .int .u64 b0, .string s0, .int .u64 r0][k]?)) := by
  subst han
  intro W1
  have hB1 : Below W.heap.size W W1 := (Below.refl _ W).alloc (Nat.le_refl _) _
  have e1 := World.cell?_alloc_new W #[.pointer (some ⟨hb, 0, none⟩), vw, .slice (some ⟨vb, 0, none⟩) 1 1, vr] 80
  have vl : vb < W.heap.size := cell_lt (hv 0)
  have hv1 : ∀ k, W1.cell? ⟨vb, k, none⟩ = #[.int .i64 kd, .int .i64 i, .int .u64 b0, .string s0, .int .u64 r0][k]? := fun k => by rw [hB1.cell (p := ⟨vb, k, none⟩) vl]; exact hv k
  have hB2 : Below W1.heap.size W1 (W1.alloc (.cells #[.int .i64 0] 3)) := (Below.refl _ W1).alloc (Nat.le_refl _) _
  have e2 := World.cell?_alloc_new W1 #[.int .i64 0] 3
  have l1 : W.heap.size < W1.heap.size := cell_lt (e1 0)
  refine ⟨hB1, hB2, are1_c _ hb vb W1.heap.size 1 vw vr q kd (by decide) (by decide) (e2 0) (cell_keep hB2 (hv1 0)), fun w' hB => ⟨fun k => ?_, fun k => ?_⟩⟩
  · rw [hB.cell (p := ⟨W.heap.size, k, none⟩) l1]; exact e1 k
  · rw [hB.cell (p := ⟨vb, k, none⟩) (by show vb < _; omega)]; exact hv1 k
set_option maxRecDepth 100000 in
theorem toText_g (kd i b0 : Int) (T : ByteArray) (hk : (kd == 4) = false) (hv : ∀ k, W.cell? ⟨vb, k, none⟩ = #[.int .i64 kd, .int .i64 i, .int .u64 b0, .string ⟨#[]⟩, .int .u64 0][k]?)
    (ct : ∀ w, Below W.heap.size W w → Calls Tryz.prog 15 #[.agg #[.int .i64 kd, .int .i64 i, .int .u64 b0, .string ⟨#[]⟩, .int .u64 0]] w fun e w' => e = .returned (.tuple #[.string T, .int .i64 0]) ∧ Below w.heap.size w w')
    (cb : ∀ w', Below W.heap.size W w' → Calls Tryz.prog 11 #[.pointer (some ⟨hb, 0, none⟩), .agg #[.int .i64 4, .int .i64 0, .int .u64 0, .string T, .int .u64 0], vr] w' R) (two : ∀ e w', R e w' → ∃ x y, e = .returned (.tuple #[.int .u64 x, .int .i64 y])) :
    Calls Tryz.prog 27 #[.agg #[.pointer (some ⟨hb, 0, none⟩), vw, .slice (some ⟨vb, 0, none⟩) 1 1, vr]] W R := by
  obtain ⟨h1, h2, cA, hE⟩ := pre1k (hb := hb) (vw := vw) (vr := vr) 4 kd i b0 0 ⟨#[]⟩ false hk hv
  have TW := hid two
  (have H1 := hid h1); (have H2 := hid h2); (have HE := hid hE)
  clear two h1 h2 hE hv hk
  go_enter Tryz.func27, Tryz.ntmps27
  go_upto_region 1 with fail
  generalize W.alloc (.cells #[.pointer (some ⟨hb, 0, none⟩), vw, .slice (some ⟨vb, 0, none⟩) 1 1, vr] 80) = W1 at *
  obtain ⟨eC1, -⟩ := HE.out W1 (Below.refl _ _)
  go_upto_region 3 with (go_at_call 58; (with_reducible refine cA.mono ?_); rintro e W2 ⟨rfl, hB3⟩; clear cA)
  have hB4 := H2.out.trans (hB3.mono H2.out.size)
  obtain ⟨eC, eV⟩ := HE.out W2 hB4
  have ct2 := ct W2 (H1.out.trans (hB4.mono H1.out.size))
  have B4 := hid hB4
  clear hB3 hB4 eC1 ct
  go_upto_region 4 with (go_at_call 15; (with_reducible refine ct2.mono ?_); rintro e W3 ⟨rfl, hB5⟩; clear ct2)
  have hB6 := B4.out.trans (hB5.mono B4.out.size)
  clear eC eV
  obtain ⟨eC, -⟩ := HE.out W3 hB6
  have cx : Calls Tryz.prog 59 #[.agg #[.pointer (some ⟨hb, 0, none⟩), vw, .slice (some ⟨vb, 0, none⟩) 1 1, vr], .string T] W3 R := boxText_g _ (fun w' h => cb w' (H1.out.trans ((hB6.trans (h.mono hB6.size)).mono H1.out.size))) TW.out
  clear hB5 hB6 cb B4
  go_wp2_with (go_at_call 59; (with_reducible refine cx.mono ?_); intro e w3 h3; (obtain ⟨x, y, rfl⟩ := TW.out e w3 h3); clear cx)
  exact h3
set_option maxRecDepth 100000 in
theorem toNumber_g (T : ByteArray) (a : Bool) (i u : Int) (hv : ∀ k, W.cell? ⟨vb, k, none⟩ = #[.int .i64 4, .int .i64 0, .int .u64 0, .string T, .int .u64 0][k]?)
    (cp : ∀ w, Below W.heap.size W w → Calls Tryz.prog 60 #[.string T] w fun e w' => e = .returned (.tuple #[.agg #[.bool a, .int .i64 i, .int .u64 u], .int .i64 0]) ∧ Below w.heap.size w w')
    (cb : ∀ w', Below W.heap.size W w' → Calls Tryz.prog 61 #[.agg #[.pointer (some ⟨hb, 0, none⟩), vw, .slice (some ⟨vb, 0, none⟩) 1 1, vr], .agg #[.bool a, .int .i64 i, .int .u64 u]] w' R) (two : ∀ e w', R e w' → ∃ x y, e = .returned (.tuple #[.int .u64 x, .int .i64 y])) :
    Calls Tryz.prog 28 #[.agg #[.pointer (some ⟨hb, 0, none⟩), vw, .slice (some ⟨vb, 0, none⟩) 1 1, vr]] W R := by
  obtain ⟨h1, h2, cA, hE⟩ := pre1k (hb := hb) (vw := vw) (vr := vr) 4 4 0 0 0 T true (by decide) hv
  have TW := hid two
  (have H1 := hid h1); (have H2 := hid h2); (have HE := hid hE)
  clear two h1 h2 hE hv
  go_enter Tryz.func28, Tryz.ntmps28
  go_upto_region 1 with fail
  generalize W.alloc (.cells #[.pointer (some ⟨hb, 0, none⟩), vw, .slice (some ⟨vb, 0, none⟩) 1 1, vr] 80) = W1 at *
  obtain ⟨eC1, -⟩ := HE.out W1 (Below.refl _ _)
  go_upto_region 3 with (go_at_call 58; (with_reducible refine cA.mono ?_); rintro e W2 ⟨rfl, hB3⟩; clear cA)
  have hB4 := H2.out.trans (hB3.mono H2.out.size)
  obtain ⟨eC, eV⟩ := HE.out W2 hB4
  have cp2 := cp W2 (H1.out.trans (hB4.mono H1.out.size))
  have B4 := hid hB4
  clear hB3 hB4 eC1 cp
  go_upto_region 4 with (go_at_call 60; (with_reducible refine cp2.mono ?_); rintro e W3 ⟨rfl, hB5⟩; clear cp2)
  have hB6 := B4.out.trans (hB5.mono B4.out.size)
  have hB7 := hB6.alloc hB6.size (.cells #[.bool a, .int .i64 i, .int .u64 u] 24)
  clear eC eV
  obtain ⟨eC, -⟩ := HE.out _ hB7
  have e2 := World.cell?_alloc_new W3 #[.bool a, .int .i64 i, .int .u64 u] 24
  have cx := cb _ (H1.out.trans (hB7.mono H1.out.size))
  clear hB5 hB6 cb B4 hB7
  generalize W3.heap.size = b3 at *
  generalize W3.alloc (.cells #[.bool a, .int .i64 i, .int .u64 u] 24) = W4 at *
  go_wp2_with (go_at_call 61; (with_reducible refine cx.mono ?_); intro e w3 h3; (obtain ⟨x, y, rfl⟩ := TW.out e w3 h3); clear cx)
  exact h3
set_option maxRecDepth 100000 in
theorem pattern_g (u t : Int) (ht : IntKind.i64.wrap u = t) (hv : ∀ k, W.cell? ⟨vb, k, none⟩ = #[.int .i64 3, .int .i64 0, .int .u64 u, .string ⟨#[]⟩, .int .u64 0][k]?)
    (cb : ∀ w', Below W.heap.size W w' → Calls Tryz.prog 11 #[.pointer (some ⟨hb, 0, none⟩), .agg #[.int .i64 2, .int .i64 t, .int .u64 0, .string ⟨#[]⟩, .int .u64 0], vr] w' R) (two : ∀ e w', R e w' → ∃ x y, e = .returned (.tuple #[.int .u64 x, .int .i64 y])) :
    Calls Tryz.prog 33 #[.agg #[.pointer (some ⟨hb, 0, none⟩), vw, .slice (some ⟨vb, 0, none⟩) 1 1, vr]] W R := by
  obtain ⟨h1, h2, cA, hE⟩ := pre1k (hb := hb) (vw := vw) (vr := vr) 3 3 0 u 0 ⟨#[]⟩ true (by decide) hv
  have TW := hid two
  (have H1 := hid h1); (have H2 := hid h2); (have HE := hid hE)
  clear two h1 h2 hE hv
  subst ht
  go_enter Tryz.func33, Tryz.ntmps33
  go_upto_region 1 with fail
  generalize W.alloc (.cells #[.pointer (some ⟨hb, 0, none⟩), vw, .slice (some ⟨vb, 0, none⟩) 1 1, vr] 80) = W1 at *
  obtain ⟨eC1, -⟩ := HE.out W1 (Below.refl _ _)
  go_upto_region 3 with (go_at_call 58; (with_reducible refine cA.mono ?_); rintro e W2 ⟨rfl, hB3⟩; clear cA)
  have hB4 := H2.out.trans (hB3.mono H2.out.size)
  obtain ⟨eC, eV⟩ := HE.out W2 hB4
  have cx : ∀ w1, Below W2.heap.size W2 w1 → Calls Tryz.prog 56 #[.agg #[.pointer (some ⟨hb, 0, none⟩), vw, .slice (some ⟨vb, 0, none⟩) 1 1, vr], .int .i64 (IntKind.i64.wrap u)] w1 R := fun w1 h1 => boxInt_g _ (fun w' h => cb w' (H1.out.trans ((hB4.trans ((h1.trans (h.mono h1.size)).mono hB4.size)).mono H1.out.size))) TW.out
  clear hB3 cb eC1
  go_region_with (go_at_call 56; (with_reducible refine (cx _ (Below.refl _ W2).drew).mono ?_); intro e w3 h3; (obtain ⟨x, y, rfl⟩ := TW.out e w3 h3); clear cx)
  all_goals (
    simp only [Act.put, List.getElem_toArray, List.getElem_cons_zero, List.getElem_cons_succ, List.setIfInBounds_toArray, List.set_cons_zero, List.set_cons_succ]
    go_wp2
    exact h3)
set_option maxRecDepth 100000 in
theorem pattern_no (i : Int) (hv : ∀ k, W.cell? ⟨vb, k, none⟩ = #[.int .i64 2, .int .i64 i, .int .u64 0, .string ⟨#[]⟩, .int .u64 0][k]?) :
    Calls Tryz.prog 33 #[.agg #[.pointer (some ⟨hb, 0, none⟩), vw, .slice (some ⟨vb, 0, none⟩) 1 1, vr]] W fun e w' => e = .returned (.tuple #[.int .u64 0, .int .i64 51]) ∧ Below W.heap.size W w' := by
  obtain ⟨h1, h2, cA, hE⟩ := pre1k (hb := hb) (vw := vw) (vr := vr) 3 2 i 0 0 ⟨#[]⟩ false (by decide) hv
  (have H1 := hid h1); (have H2 := hid h2); (have HE := hid hE)
  clear h1 h2 hE hv
  go_enter Tryz.func33, Tryz.ntmps33
  go_upto_region 1 with fail
  generalize W.alloc (.cells #[.pointer (some ⟨hb, 0, none⟩), vw, .slice (some ⟨vb, 0, none⟩) 1 1, vr] 80) = W1 at *
  obtain ⟨eC1, -⟩ := HE.out W1 (Below.refl _ _)
  go_wp2_with (go_at_call 58; (with_reducible refine cA.mono ?_); rintro e W2 ⟨rfl, hB3⟩; clear cA)
  go_ret2
  have hB4 := H2.out.trans (hB3.mono H2.out.size)
  exact ⟨rfl, H1.out.trans (hB4.mono H1.out.size)⟩
set_option maxRecDepth 100000 in
theorem fromPattern_g (t x : Int) (x0 : 0 ≤ x) (x1 : x < 18446744073709551616) (ht : IntKind.u64.wrap t = x) (hv : ∀ k, W.cell? ⟨vb, k, none⟩ = #[.int .i64 2, .int .i64 t, .int .u64 0, .string ⟨#[]⟩, .int .u64 0][k]?) :
    Calls Tryz.prog 34 #[.agg #[.pointer (some ⟨hb, 0, none⟩), vw, .slice (some ⟨vb, 0, none⟩) 1 1, vr]] W fun e w' => e = .returned (.tuple #[.int .u64 (Go.Proofs.YtgkakflnmpoadaaGreatDoor.W.fltW x), .int .i64 0]) ∧ Below W.heap.size W w' := by
  obtain ⟨h1, h2, cA, hE⟩ := pre1k (hb := hb) (vw := vw) (vr := vr) 2 2 t 0 0 ⟨#[]⟩ true (by decide) hv
  have cF := fun w => fromFloat_c x x0 x1 w
  generalize Go.Proofs.YtgkakflnmpoadaaGreatDoor.W.fltW x = y at *
  subst ht
  (have H1 := hid h1); (have H2 := hid h2); (have HE := hid hE)
  clear h1 h2 hE hv x0 x1
  go_enter Tryz.func34, Tryz.ntmps34
  go_upto_region 1 with fail
  generalize W.alloc (.cells #[.pointer (some ⟨hb, 0, none⟩), vw, .slice (some ⟨vb, 0, none⟩) 1 1, vr] 80) = W1 at *
  obtain ⟨eC1, -⟩ := HE.out W1 (Below.refl _ _)
  go_upto_region 3 with (go_at_call 58; (with_reducible refine cA.mono ?_); rintro e W2 ⟨rfl, hB3⟩; clear cA)
  have hB4 := H2.out.trans (hB3.mono H2.out.size)
  obtain ⟨eC, eV⟩ := HE.out W2 hB4
  have HB := hid (H1.out.trans (hB4.mono H1.out.size))
  clear hB3 hB4 eC1
  go_wp2_with (go_at_call 22; (with_reducible refine (cF _).mono ?_); rintro e w' ⟨rfl, hw⟩; (have hw' := hw.symm); subst hw'; clear hw)
  go_ret2
  exact ⟨rfl, HB.out⟩
end
end Go.Proofs.YtgkakflnmpoadaaGreatDoor.W.Nu
/- Plain facts on doubles by their exact numbers, for texts of numbers: a number that is some digits times a power of two is at most one pattern, and which one. No Go in sight. -/
namespace Go.Proofs.YtgkakflnmpoadaaGreatDoor.W.Nu.Q
open Ieee

/-- a pattern without a sign, by its parts -/
theorem parts (a : Int) (h0 : 0 ≤ a) (h1 : a < 9223372036854775808) (hf : finB a = true) :
    ∃ m P : Nat, a = ((P * 4503599627370496 + m : Nat) : Int) ∧ m < 9007199254740992 ∧ (4503599627370496 ≤ m ∨ P = 0) ∧ P ≤ 2045 ∧ keyI a = ((m * 2 ^ P : Nat) : Int) := by
  obtain ⟨s, m, p, e⟩ := fin_read a hf
  obtain ⟨q1, q2, q3, q4, q5⟩ := read_number (by omega) e
  have hs : s = false := by
    cases s
    · rfl
    · simp only [if_true] at q5; omega
  subst hs
  refine ⟨m, (p + 1074).toNat, ?_, q1, by omega, by omega, ?_⟩
  · simp only [Bool.false_eq_true, if_false] at q5; omega
  · unfold keyI
    rw [e]
    simp only [key, signed_v, Bool.false_eq_true, if_false]
/-- and back -/
theorem parts_mk (m P : Nat) (h1 : m < 9007199254740992) (h2 : 4503599627370496 ≤ m ∨ P = 0) (h3 : P ≤ 2045) :
    finB ((P * 4503599627370496 + m : Nat) : Int) = true ∧ ((P * 4503599627370496 + m : Nat) : Int) < 9223372036854775808 ∧ keyI ((P * 4503599627370496 + m : Nat) : Int) = ((m * 2 ^ P : Nat) : Int) := by
  have hb : P * 4503599627370496 + m < 9218868437227405312 := by omega
  have hf : finB ((P * 4503599627370496 + m : Nat) : Int) = true := by
    simp only [finB, decide_eq_true_eq]; omega
  refine ⟨hf, by omega, ?_⟩
  obtain ⟨m', P', e, e1, e2, e3, e4⟩ := parts _ (by omega) (by omega) hf
  have hh : P = P' ∧ m = m' := by
    have e' : P * 4503599627370496 + m = P' * 4503599627370496 + m' := by omega
    omega
  rw [e4, hh.1, hh.2]
/-- parts of one number are the same -/
theorem parts_inj {m P m' P' : Nat} (h1 : m < 9007199254740992) (h1' : m' < 9007199254740992) (h2 : 4503599627370496 ≤ m ∨ P = 0) (h2' : 4503599627370496 ≤ m' ∨ P' = 0) (h : m * 2 ^ P = m' * 2 ^ P') : m = m' ∧ P = P' := by
  have go : ∀ {m P m' P' : Nat}, m < 9007199254740992 → (4503599627370496 ≤ m' ∨ P' = 0) → m * 2 ^ P = m' * 2 ^ P' → ¬ P < P' := by
    intro m P m' P' k1 k2 k hlt
    have e : 2 ^ P' = 2 ^ (P' - P) * 2 ^ P := by rw [← Nat.pow_add]; congr 1; omega
    rw [e, ← Nat.mul_assoc] at k
    have k3 : m = m' * 2 ^ (P' - P) := Nat.eq_of_mul_eq_mul_right (Nat.two_pow_pos P) k
    have k4 : 2 ^ 1 ≤ 2 ^ (P' - P) := Nat.pow_le_pow_right (by omega) (by omega)
    have k5 : m' * 2 ≤ m' * 2 ^ (P' - P) := Nat.mul_le_mul_left _ (by omega)
    omega
  have a := go h1 h2' h
  have b := go h1' h2 h.symm
  have e : P = P' := by omega
  subst e
  exact ⟨Nat.eq_of_mul_eq_mul_right (Nat.two_pow_pos P) h, rfl⟩
/-- finite patterns of one sign with one number are one -/
theorem key_inj (a b : Int) (a0 : 0 ≤ a) (a1 : a < 9223372036854775808) (b0 : 0 ≤ b) (b1 : b < 9223372036854775808) (fa : finB a = true) (fb : finB b = true) (h : keyI a = keyI b) : a = b := by
  obtain ⟨m, P, e, h1, h2, h3, h4⟩ := parts a a0 a1 fa
  obtain ⟨m', P', e', h1', h2', h3', h4'⟩ := parts b b0 b1 fb
  rw [h4, h4'] at h
  have h' : m * 2 ^ P = m' * 2 ^ P' := by exact_mod_cast h
  obtain ⟨rfl, rfl⟩ := parts_inj h1 h1' h2 h2' h'
  omega

/-- the pattern a, without a sign, is N times 2 to the low -/
def ValOf (a : Int) (N : Nat) (low : Int) : Prop :=
  0 ≤ a ∧ a < 9223372036854775808 ∧ finB a = true ∧ ∃ V : Nat, keyI a = V ∧ V * 2 ^ (-(low + 1074)).toNat = N * 2 ^ (low + 1074).toNat
theorem val_unique {a b : Int} {N : Nat} {low : Int} (ha : ValOf a N low) (hb : ValOf b N low) : a = b := by
  obtain ⟨a0, a1, fa, V, ka, va⟩ := ha
  obtain ⟨b0, b1, fb, U, kb, vb⟩ := hb
  have : V = U := Nat.eq_of_mul_eq_mul_right (Nat.two_pow_pos _) (va.trans vb.symm)
  exact key_inj a b a0 a1 b0 b1 fa fb (by rw [ka, kb, this])
/-- the same number, its digits shifted -/
theorem val_shift {a : Int} {N : Nat} {low : Int} (k : Nat) : ValOf a (N * 2 ^ k) low ↔ ValOf a N (low + k) := by
  unfold ValOf
  constructor
  · rintro ⟨a0, a1, fa, V, ka, va⟩
    refine ⟨a0, a1, fa, V, ka, ?_⟩
    have e1 : (-(low + 1074)).toNat + (low + k + 1074).toNat = (-(low + k + 1074)).toNat + (k + (low + 1074).toNat) := by omega
    apply Nat.eq_of_mul_eq_mul_right (Nat.two_pow_pos ((-(low + 1074)).toNat))
    have := congrArg (· * 2 ^ (-(low + k + 1074)).toNat) va
    calc V * 2 ^ (-(low + ↑k + 1074)).toNat * 2 ^ (-(low + 1074)).toNat = V * 2 ^ (-(low + 1074)).toNat * 2 ^ (-(low + k + 1074)).toNat := by rw [Nat.mul_assoc, Nat.mul_assoc, Nat.mul_comm (2 ^ _)]
      _ = N * 2 ^ k * 2 ^ (low + 1074).toNat * 2 ^ (-(low + k + 1074)).toNat := this
      _ = N * 2 ^ (low + ↑k + 1074).toNat * 2 ^ (-(low + 1074)).toNat := by
        rw [Nat.mul_assoc, Nat.mul_assoc, Nat.mul_assoc, ← Nat.pow_add, ← Nat.pow_add, ← Nat.pow_add]
        congr 2; omega
  · rintro ⟨a0, a1, fa, V, ka, va⟩
    refine ⟨a0, a1, fa, V, ka, ?_⟩
    apply Nat.eq_of_mul_eq_mul_right (Nat.two_pow_pos ((-(low + k + 1074)).toNat))
    have := congrArg (· * 2 ^ (-(low + 1074)).toNat) va
    calc V * 2 ^ (-(low + 1074)).toNat * 2 ^ (-(low + ↑k + 1074)).toNat = V * 2 ^ (-(low + k + 1074)).toNat * 2 ^ (-(low + 1074)).toNat := by rw [Nat.mul_assoc, Nat.mul_assoc, Nat.mul_comm (2 ^ _)]
      _ = N * 2 ^ (low + k + 1074).toNat * 2 ^ (-(low + 1074)).toNat := this
      _ = N * 2 ^ k * 2 ^ (low + 1074).toNat * 2 ^ (-(low + ↑k + 1074)).toNat := by
        rw [Nat.mul_assoc, Nat.mul_assoc, Nat.mul_assoc, ← Nat.pow_add, ← Nat.pow_add, ← Nat.pow_add]
        congr 2; omega
/-- where the highest digit of n times 2 to the low stands -/
theorem high_le {n : Nat} (hn : n ≠ 0) : 2 ^ n.log2 ≤ n ∧ n < 2 ^ (n.log2 + 1) := ⟨Nat.log2_self_le hn, Nat.lt_log2_self⟩
/-- a number of few digits, not too small and not too great, is a double: its pattern -/
theorem val_make (n : Nat) (low : Int) (hn : n ≠ 0) (h53 : n.log2 ≤ 52) (hlow : -1074 ≤ low) (hhigh : low + n.log2 ≤ 1023) :
    (low + n.log2 < -1022 → ValOf ((n * 2 ^ (low + 1074).toNat : Nat) : Int) n low) ∧
    (-1022 ≤ low + n.log2 → 4503599627370496 ≤ n * 2 ^ (52 - n.log2) ∧ n * 2 ^ (52 - n.log2) < 9007199254740992 ∧
      ((-1074 ≤ low + n.log2 - 52) → ValOf (((low + n.log2 + 1023).toNat * 4503599627370496 + (n * 2 ^ (52 - n.log2) - 4503599627370496) : Nat) : Int) n low)) := by
  obtain ⟨l1, l2⟩ := high_le hn
  have z : (-(low + 1074)).toNat = 0 := by omega
  constructor
  · intro h
    have b : n * 2 ^ (low + 1074).toNat < 4503599627370496 := by
      have b1 : n * 2 ^ (low + 1074).toNat < 2 ^ (n.log2 + 1) * 2 ^ (low + 1074).toNat := Nat.mul_lt_mul_of_pos_right l2 (Nat.two_pow_pos _)
      rw [← Nat.pow_add] at b1
      have b2 : 2 ^ (n.log2 + 1 + (low + 1074).toNat) ≤ 2 ^ 52 := Nat.pow_le_pow_right (by omega) (by omega)
      omega
    obtain ⟨f, g, k⟩ := parts_mk (n * 2 ^ (low + 1074).toNat) 0 (by omega) (Or.inr rfl) (by omega)
    rw [Nat.zero_mul, Nat.zero_add] at f g k
    exact ⟨by omega, g, f, _, k, by rw [z, Nat.pow_zero, Nat.mul_one, Nat.mul_one]⟩
  · intro h
    have b1 : 2 ^ n.log2 * 2 ^ (52 - n.log2) ≤ n * 2 ^ (52 - n.log2) := Nat.mul_le_mul_right _ l1
    have b2 : n * 2 ^ (52 - n.log2) < 2 ^ (n.log2 + 1) * 2 ^ (52 - n.log2) := Nat.mul_lt_mul_of_pos_right l2 (Nat.two_pow_pos _)
    rw [← Nat.pow_add, show n.log2 + (52 - n.log2) = 52 by omega] at b1
    rw [← Nat.pow_add, show n.log2 + 1 + (52 - n.log2) = 53 by omega] at b2
    have p52 : (2 : Nat) ^ 52 = 4503599627370496 := by decide
    have p53 : (2 : Nat) ^ 53 = 9007199254740992 := by decide
    rw [p52] at b1
    rw [p53] at b2
    have c1 := b1
    have c2 := b2
    refine ⟨c1, c2, fun hl => ?_⟩
    obtain ⟨f, g, k⟩ := parts_mk (n * 2 ^ (52 - n.log2)) (low + n.log2 + 1022).toNat c2 (Or.inl c1) (by omega)
    have e : (low + n.log2 + 1023).toNat * 4503599627370496 + (n * 2 ^ (52 - n.log2) - 4503599627370496) = (low + n.log2 + 1022).toNat * 4503599627370496 + n * 2 ^ (52 - n.log2) := by omega
    rw [e]
    refine ⟨by omega, g, f, _, k, ?_⟩
    have e3 : 52 - n.log2 + (low + n.log2 + 1022).toNat = (low + 1074).toNat := by omega
    rw [z, Nat.pow_zero, Nat.mul_one, Nat.mul_assoc, ← Nat.pow_add, e3]
/-- an odd number of many digits, too small or too great, is no double -/
theorem val_none (n : Nat) (low : Int) (hn : n % 2 = 1) (h : 52 < n.log2 ∨ low < -1074 ∨ 1023 < low + n.log2) (a : Int) : ¬ ValOf a n low := by
  rintro ⟨a0, a1, fa, V, ka, va⟩
  obtain ⟨m, P, e, h1, h2, h3, h4⟩ := parts a a0 a1 fa
  have hV : V = m * 2 ^ P := by rw [ka] at h4; exact_mod_cast h4
  have hn0 : n ≠ 0 := by omega
  obtain ⟨l1, l2⟩ := high_le hn0
  subst hV
  by_cases hl : low < -1074
  · have z : (low + 1074).toNat = 0 := by omega
    rw [z, Nat.pow_zero, Nat.mul_one] at va
    have : (2 : Nat) ^ (-(low + 1074)).toNat = 2 ^ ((-(low + 1074)).toNat - 1) * 2 := by rw [← Nat.pow_succ]; congr 1; omega
    rw [this, ← Nat.mul_assoc] at va
    omega
  · have z : (-(low + 1074)).toNat = 0 := by omega
    rw [z, Nat.pow_zero, Nat.mul_one] at va
    rcases h with h | h | h
    · -- an odd number times a power of two: the other one's factor divides
      have hP : P ≤ (low + 1074).toNat := by
        false_or_by_contra
        rename_i g
        have e2 : (2 : Nat) ^ P = 2 ^ (P - (low + 1074).toNat - 1) * 2 * 2 ^ (low + 1074).toNat := by rw [← Nat.pow_succ, ← Nat.pow_add]; congr 1; omega
        rw [e2, ← Nat.mul_assoc] at va
        have := Nat.eq_of_mul_eq_mul_right (Nat.two_pow_pos _) va
        rw [← Nat.mul_assoc] at this
        omega
      have e2 : (2 : Nat) ^ (low + 1074).toNat = 2 ^ ((low + 1074).toNat - P) * 2 ^ P := by rw [← Nat.pow_add]; congr 1; omega
      rw [e2, ← Nat.mul_assoc] at va
      have e3 := Nat.eq_of_mul_eq_mul_right (Nat.two_pow_pos _) va
      have e4 : n * 1 ≤ n * 2 ^ ((low + 1074).toNat - P) := Nat.mul_le_mul_left _ (Nat.two_pow_pos _)
      have e5 : 2 ^ 53 ≤ 2 ^ n.log2 := Nat.pow_le_pow_right (by omega) (by omega)
      have e6 : (2 : Nat) ^ 53 = 9007199254740992 := by decide
      omega
    · omega
    · have p53 : (2 : Nat) ^ 53 = 9007199254740992 := by decide
      have b0 : m < 2 ^ 53 := by omega
      have b1 : m * 2 ^ P < 2 ^ 53 * 2 ^ P := Nat.mul_lt_mul_of_pos_right b0 (Nat.two_pow_pos _)
      have b2 : 2 ^ n.log2 * 2 ^ (low + 1074).toNat ≤ n * 2 ^ (low + 1074).toNat := Nat.mul_le_mul_right _ l1
      rw [← Nat.pow_add] at b1 b2
      have b3 : 2 ^ (53 + P) ≤ 2 ^ (n.log2 + (low + 1074).toNat) := Nat.pow_le_pow_right (by omega) (by omega)
      omega
end Go.Proofs.YtgkakflnmpoadaaGreatDoor.W.Nu.Q
/- Plain facts on decimal digits: a number's digits as bytes, and the number that digits are. No Go in sight. -/
namespace Go.Proofs.YtgkakflnmpoadaaGreatDoor.W.Nu.Q

/-- a digit's byte -/
def dig (d : Nat) : UInt8 := UInt8.ofNat (48 + d)
theorem dig_toNat (d : Nat) (h : d < 10) : (dig d).toNat = 48 + d := by
  unfold dig
  rw [UInt8.toNat_ofNat']
  omega
/-- a number in decimal digits -/
def decL (n : Nat) : List UInt8 := if n < 10 then [dig n] else decL (n / 10) ++ [dig (n % 10)]
  termination_by n
  decreasing_by omega
theorem decL_small {n : Nat} (h : n < 10) : decL n = [dig n] := by rw [decL, if_pos h]
theorem decL_step {n : Nat} (h : ¬ n < 10) : decL n = decL (n / 10) ++ [dig (n % 10)] := by rw [decL, if_neg h]
/-- the number that digits are -/
def valD (l : List UInt8) : Nat := l.foldl (fun a c => 10 * a + (c.toNat - 48)) 0
theorem valD_snoc (l : List UInt8) (c : UInt8) : valD (l ++ [c]) = 10 * valD l + (c.toNat - 48) := by simp [valD, List.foldl_append]
theorem valD_dec (n : Nat) : valD (decL n) = n := by
  induction n using Nat.strongRecOn with
  | _ n ih =>
    by_cases h : n < 10
    · rw [decL_small h]
      simp only [valD, List.foldl_cons, List.foldl_nil, dig_toNat n h]
      omega
    · rw [decL_step h, valD_snoc, ih _ (by omega), dig_toNat _ (by omega)]
      omega
/-- digits, the first no nought unless it is the only one -/
def goodD (l : List UInt8) : Prop := l ≠ [] ∧ (∀ c ∈ l, 48 ≤ c.toNat ∧ c.toNat ≤ 57) ∧ (l.head? = some (dig 0) → l.length = 1)
theorem decL_digits (n : Nat) : ∀ c ∈ decL n, 48 ≤ c.toNat ∧ c.toNat ≤ 57 := by
  induction n using Nat.strongRecOn with
  | _ n ih =>
    intro c hc
    by_cases h : n < 10
    · rw [decL_small h] at hc
      simp only [List.mem_singleton] at hc
      rw [hc, dig_toNat n h]; omega
    · rw [decL_step h, List.mem_append] at hc
      rcases hc with hc | hc
      · exact ih _ (by omega) c hc
      · simp only [List.mem_singleton] at hc
        rw [hc, dig_toNat _ (by omega)]; omega
theorem decL_ne (n : Nat) : decL n ≠ [] := by
  by_cases h : n < 10
  · rw [decL_small h]; simp
  · rw [decL_step h]; simp
theorem decL_head (n : Nat) (hn : n ≠ 0) : (decL n).head? ≠ some (dig 0) := by
  induction n using Nat.strongRecOn with
  | _ n ih =>
    by_cases h : n < 10
    · rw [decL_small h]
      simp only [List.head?_cons, ne_eq, Option.some.injEq]
      intro e
      have := congrArg UInt8.toNat e
      rw [dig_toNat n h, dig_toNat 0 (by omega)] at this
      omega
    · have g := ih (n / 10) (by omega) (by omega)
      rw [decL_step h]
      cases e : decL (n / 10) with
      | nil => exact absurd e (decL_ne _)
      | cons a l => rw [e] at g; simpa using g
theorem decL_good (n : Nat) : goodD (decL n) := by
  refine ⟨decL_ne n, decL_digits n, fun h => ?_⟩
  by_cases hn : n = 0
  · subst hn; rw [decL_small (by omega)]; rfl
  · exact absurd h (decL_head n hn)
theorem decL_length (n k : Nat) (h : n < 10 ^ k) (hk : 0 < k) : (decL n).length ≤ k := by
  induction k generalizing n with
  | zero => omega
  | succ k ih =>
    by_cases hs : n < 10
    · rw [decL_small hs]; simp
    · rw [decL_step hs, List.length_append]
      have hk' : 0 < k := by
        rcases Nat.eq_zero_or_pos k with e | e
        · subst e; simp at h; omega
        · exact e
      have := ih (n / 10) (by rw [Nat.pow_succ] at h; omega) hk'
      simp only [List.length_cons, List.length_nil]
      omega
theorem foldD (l : List UInt8) (a : Nat) : l.foldl (fun a c => 10 * a + (c.toNat - 48)) a = a * 10 ^ l.length + valD l := by
  induction l generalizing a with
  | nil => simp [valD]
  | cons c l ih =>
    have e : valD (c :: l) = l.foldl (fun a c => 10 * a + (c.toNat - 48)) (10 * 0 + (c.toNat - 48)) := rfl
    rw [List.foldl_cons, ih, e, ih, List.length_cons, Nat.pow_succ, Nat.add_mul, Nat.mul_zero, Nat.zero_add, Nat.add_assoc]
    congr 1
    rw [Nat.mul_comm 10 a, Nat.mul_assoc, Nat.mul_comm 10]
theorem valD_cons (c : UInt8) (l : List UInt8) : valD (c :: l) = (c.toNat - 48) * 10 ^ l.length + valD l := by
  have e : valD (c :: l) = l.foldl (fun a c => 10 * a + (c.toNat - 48)) (10 * 0 + (c.toNat - 48)) := rfl
  rw [e, foldD, Nat.mul_zero, Nat.zero_add]
theorem valD_le (l : List UInt8) (h : ∀ c ∈ l, 48 ≤ c.toNat ∧ c.toNat ≤ 57) : valD l < 10 ^ l.length := by
  induction l with
  | nil => simp [valD]
  | cons c l ih =>
    rw [valD_cons, List.length_cons, Nat.pow_succ]
    have h1 := h c (by simp)
    have h2 := ih (fun x hx => h x (by simp [hx]))
    have h3 : (c.toNat - 48) * 10 ^ l.length ≤ 9 * 10 ^ l.length := Nat.mul_le_mul_right _ (by omega)
    omega
end Go.Proofs.YtgkakflnmpoadaaGreatDoor.W.Nu.Q
/- Plain facts on hexadecimal digits, and on the text of a double: what it says is the double's exact number. No Go in sight. -/
namespace Go.Proofs.YtgkakflnmpoadaaGreatDoor.W.Nu.Q

/-- a hexadecimal digit's byte, and a byte's digit (-1: none) -/
def hexd (d : Nat) : UInt8 := if d < 10 then UInt8.ofNat (48 + d) else UInt8.ofNat (87 + d)
def hexV (c : UInt8) : Int := if 48 ≤ c.toNat ∧ c.toNat ≤ 57 then c.toNat - 48 else if 97 ≤ c.toNat ∧ c.toNat ≤ 102 then c.toNat - 87 else -1
theorem hexd_toNat (d : Nat) (h : d < 16) : (hexd d).toNat = if d < 10 then 48 + d else 87 + d := by
  unfold hexd
  split
  · rw [UInt8.toNat_ofNat']; omega
  · rw [UInt8.toNat_ofNat']; omega
theorem hexV_hexd (d : Nat) (h : d < 16) : hexV (hexd d) = d := by
  unfold hexV
  rw [hexd_toNat d h]
  by_cases g : d < 10
  · rw [if_pos g, if_pos (by omega)]; omega
  · rw [if_neg g, if_neg (by omega), if_pos (by omega)]; omega
theorem hexV_range (c : UInt8) : -1 ≤ hexV c ∧ hexV c < 16 := by unfold hexV; split <;> (try split) <;> omega
/-- the number that hexadecimal digits are -/
def valH (l : List UInt8) : Nat := l.foldl (fun a c => 16 * a + (hexV c).toNat) 0
theorem foldH (l : List UInt8) (a : Nat) : l.foldl (fun a c => 16 * a + (hexV c).toNat) a = a * 16 ^ l.length + valH l := by
  induction l generalizing a with
  | nil => simp [valH]
  | cons c l ih =>
    have e : valH (c :: l) = l.foldl (fun a c => 16 * a + (hexV c).toNat) (16 * 0 + (hexV c).toNat) := rfl
    rw [List.foldl_cons, ih, e, ih, List.length_cons, Nat.pow_succ, Nat.add_mul, Nat.mul_zero, Nat.zero_add, Nat.add_assoc]
    congr 1
    rw [Nat.mul_comm 16 a, Nat.mul_assoc, Nat.mul_comm 16]
theorem valH_cons (c : UInt8) (l : List UInt8) : valH (c :: l) = (hexV c).toNat * 16 ^ l.length + valH l := by
  have e : valH (c :: l) = l.foldl (fun a c => 16 * a + (hexV c).toNat) (16 * 0 + (hexV c).toNat) := rfl
  rw [e, foldH, Nat.mul_zero, Nat.zero_add]
theorem valH_append (l m : List UInt8) : valH (l ++ m) = valH l * 16 ^ m.length + valH m := by
  unfold valH
  rw [List.foldl_append, foldH]
  rfl
theorem valH_snoc (l : List UInt8) (c : UInt8) : valH (l ++ [c]) = 16 * valH l + (hexV c).toNat := by
  rw [valH_append]
  simp [valH]
  omega
/-- the digits behind the point: k at most -/
def fracL : Nat → Nat → List UInt8
  | 0, _ => []
  | k + 1, f => if f = 0 then [] else hexd (f / 281474976710656) :: fracL k (f % 281474976710656 * 16)
theorem pow16 (k : Nat) : 16 ^ k = 2 ^ (4 * k) := by rw [Nat.pow_mul]
theorem fracL_val (k f : Nat) (hk : k ≤ 13) (h1 : f < 4503599627370496) (h2 : f % 2 ^ (52 - 4 * k) = 0) :
    (fracL k f).length ≤ k ∧ valH (fracL k f) * 2 ^ (52 - 4 * (fracL k f).length) = f ∧ (∀ c ∈ fracL k f, 0 ≤ hexV c) := by
  induction k generalizing f with
  | zero =>
    have : f = 0 := by
      have e : (2 : Nat) ^ (52 - 4 * 0) = 4503599627370496 := by decide
      rw [e] at h2; omega
    subst this
    exact ⟨Nat.le_refl _, by simp [fracL, valH], by simp [fracL]⟩
  | succ k ih =>
    unfold fracL
    by_cases hf : f = 0
    · rw [if_pos hf]
      subst hf
      exact ⟨by simp, by simp [valH], by simp⟩
    · rw [if_neg hf]
      have hd : f / 281474976710656 < 16 := by omega
      have hr : f % 281474976710656 * 16 < 4503599627370496 := by omega
      have hm : f % 281474976710656 * 16 % 2 ^ (52 - 4 * k) = 0 := by
        have e1 : (2 : Nat) ^ (52 - 4 * k) = 2 ^ (52 - 4 * (k + 1)) * 16 := by
          rw [show (16 : Nat) = 2 ^ 4 by decide, ← Nat.pow_add]; congr 1; omega
        rw [e1, Nat.mul_mod_mul_right]
        have e2 : (281474976710656 : Nat) = 2 ^ (52 - 4 * (k + 1)) * 2 ^ (4 * k) := by
          rw [← Nat.pow_add, show 52 - 4 * (k + 1) + 4 * k = 48 by omega]
        rw [e2, Nat.mod_mul_right_mod, h2, Nat.zero_mul]
      obtain ⟨i1, i2, i3⟩ := ih (f % 281474976710656 * 16) (by omega) hr hm
      generalize fracL k (f % 281474976710656 * 16) = l at i1 i2 i3
      refine ⟨by simp only [List.length_cons]; omega, ?_, ?_⟩
      · rw [valH_cons, hexV_hexd _ hd, Int.toNat_natCast, List.length_cons, Nat.add_mul]
        have e3 : 16 ^ l.length * 2 ^ (52 - 4 * (l.length + 1)) = 281474976710656 := by
          rw [pow16, ← Nat.pow_add, show 4 * l.length + (52 - 4 * (l.length + 1)) = 48 by omega]
        have e4 : (2 : Nat) ^ (52 - 4 * l.length) = 2 ^ (52 - 4 * (l.length + 1)) * 16 := by
          rw [show (16 : Nat) = 2 ^ 4 by decide, ← Nat.pow_add]; congr 1; omega
        rw [e4, ← Nat.mul_assoc] at i2
        have e5 : valH l * 2 ^ (52 - 4 * (l.length + 1)) = f % 281474976710656 := Nat.eq_of_mul_eq_mul_right (by decide : 0 < 16) i2
        rw [e5, Nat.mul_assoc, e3]
        omega
      · intro c hc
        rcases List.mem_cons.1 hc with rfl | hc
        · rw [hexV_hexd _ hd]; omega
        · exact i3 c hc
/-- one and what stands behind the point, by digits -/
theorem one_frac (f : Nat) (h1 : f < 4503599627370496) :
    (fracL 13 f).length ≤ 13 ∧ valH (hexd 1 :: fracL 13 f) * 2 ^ (52 - 4 * (fracL 13 f).length) = 4503599627370496 + f := by
  have e0 : (2 : Nat) ^ (52 - 4 * 13) = 1 := by decide
  obtain ⟨i1, i2, -⟩ := fracL_val 13 f (Nat.le_refl _) h1 (by rw [e0]; omega)
  refine ⟨i1, ?_⟩
  rw [valH_cons, hexV_hexd 1 (by omega), Int.toNat_natCast, Nat.add_mul, i2, Nat.one_mul, pow16, ← Nat.pow_add, show 4 * (fracL 13 f).length + (52 - 4 * (fracL 13 f).length) = 52 by omega]
/-- a finite pattern above nought: its power and what stands behind the point -/
def powOf (a : Nat) : Int := if a < 4503599627370496 then (a.log2 : Int) - 1074 else (a / 4503599627370496 : Nat) - 1023
def fracOf (a : Nat) : Nat := if a < 4503599627370496 then a * 2 ^ (52 - a.log2) - 4503599627370496 else a % 4503599627370496
theorem fracOf_spec (a : Nat) (h0 : a ≠ 0) (h1 : a < 9218868437227405312) :
    fracOf a < 4503599627370496 ∧ ValOf (a : Int) (4503599627370496 + fracOf a) (powOf a - 52) ∧ -1074 ≤ powOf a ∧ powOf a ≤ 1023 := by
  unfold fracOf powOf
  by_cases hs : a < 4503599627370496
  · rw [if_pos hs, if_pos hs]
    obtain ⟨l1, l2⟩ := high_le h0
    have hl : a.log2 ≤ 51 := by
      false_or_by_contra
      rename_i g
      have : 2 ^ 52 ≤ 2 ^ a.log2 := Nat.pow_le_pow_right (by omega) (by omega)
      have p52 : (2 : Nat) ^ 52 = 4503599627370496 := by decide
      omega
    have b1 : 2 ^ a.log2 * 2 ^ (52 - a.log2) ≤ a * 2 ^ (52 - a.log2) := Nat.mul_le_mul_right _ l1
    have b2 : a * 2 ^ (52 - a.log2) < 2 ^ (a.log2 + 1) * 2 ^ (52 - a.log2) := Nat.mul_lt_mul_of_pos_right l2 (Nat.two_pow_pos _)
    rw [← Nat.pow_add, show a.log2 + (52 - a.log2) = 52 by omega] at b1
    rw [← Nat.pow_add, show a.log2 + 1 + (52 - a.log2) = 53 by omega] at b2
    have p52 : (2 : Nat) ^ 52 = 4503599627370496 := by decide
    have p53 : (2 : Nat) ^ 53 = 9007199254740992 := by decide
    rw [p52] at b1
    rw [p53] at b2
    refine ⟨by omega, ?_, by omega, by omega⟩
    have e : 4503599627370496 + (a * 2 ^ (52 - a.log2) - 4503599627370496) = a * 2 ^ (52 - a.log2) := by omega
    rw [e]
    have sh := (val_shift (a := (a : Int)) (N := a) (low := (a.log2 : Int) - 1074 - 52) (52 - a.log2)).2
    refine sh ?_
    have el : (a.log2 : Int) - 1074 - 52 + ((52 - a.log2 : Nat) : Int) = -1074 := by omega
    rw [el]
    obtain ⟨f, g, k⟩ := parts_mk a 0 (by omega) (Or.inr rfl) (by omega)
    rw [Nat.zero_mul, Nat.zero_add] at f g k
    exact ⟨by omega, g, f, _, k, by simp⟩
  · rw [if_neg hs, if_neg hs]
    have hr : a % 4503599627370496 < 4503599627370496 := Nat.mod_lt _ (by decide)
    refine ⟨hr, ?_, by omega, by omega⟩
    obtain ⟨f, g, k⟩ := parts_mk (4503599627370496 + a % 4503599627370496) (a / 4503599627370496 - 1) (by omega) (Or.inl (by omega)) (by omega)
    have e : (a / 4503599627370496 - 1) * 4503599627370496 + (4503599627370496 + a % 4503599627370496) = a := by omega
    rw [e] at f g k
    refine ⟨by omega, g, f, _, k, ?_⟩
    have z : (-(((a / 4503599627370496 : Nat) : Int) - 1023 - 52 + 1074)).toNat = 0 := by omega
    have y : (((a / 4503599627370496 : Nat) : Int) - 1023 - 52 + 1074).toNat = a / 4503599627370496 - 1 := by omega
    rw [z, y, Nat.pow_zero, Nat.mul_one]
/-- what a double's text says is the double -/
theorem text_val (a : Nat) (h0 : a ≠ 0) (h1 : a < 9218868437227405312) :
    ValOf (a : Int) (valH (hexd 1 :: fracL 13 (fracOf a))) (powOf a - 4 * (fracL 13 (fracOf a)).length) := by
  obtain ⟨f1, f2, f3, f4⟩ := fracOf_spec a h0 h1
  obtain ⟨g1, g2⟩ := one_frac (fracOf a) f1
  rw [← g2] at f2
  have sh := (val_shift (a := (a : Int)) (N := valH (hexd 1 :: fracL 13 (fracOf a))) (low := powOf a - 52) (52 - 4 * (fracL 13 (fracOf a)).length)).1 f2
  have el : powOf a - 52 + ((52 - 4 * (fracL 13 (fracOf a)).length : Nat) : Int) = powOf a - 4 * (fracL 13 (fracOf a)).length := by omega
  rw [el] at sh
  exact sh
end Go.Proofs.YtgkakflnmpoadaaGreatDoor.W.Nu.Q
/- Plain facts on doubles by their exact numbers: which pattern is some digits times a power of two, or none. No Go in sight. -/
namespace Go.Proofs.YtgkakflnmpoadaaGreatDoor.W.Nu.Q

/-- how often a number can be halved, and what is left -/
def twos (n : Nat) : Nat := if n = 0 then 0 else if n % 2 = 0 then twos (n / 2) + 1 else 0
  termination_by n
  decreasing_by omega
def oddN (n : Nat) : Nat := if n = 0 then 0 else if n % 2 = 0 then oddN (n / 2) else n
  termination_by n
  decreasing_by omega
theorem odd_twos (n : Nat) (h : n ≠ 0) : oddN n % 2 = 1 ∧ n = oddN n * 2 ^ twos n := by
  induction n using Nat.strongRecOn with
  | _ n ih =>
    rw [oddN, twos]
    rw [if_neg h, if_neg h]
    by_cases g : n % 2 = 0
    · rw [if_pos g, if_pos g]
      obtain ⟨i1, i2⟩ := ih (n / 2) (by omega) (by omega)
      refine ⟨i1, ?_⟩
      rw [Nat.pow_succ, ← Nat.mul_assoc, ← i2]
      omega
    · rw [if_neg g, if_neg g]
      exact ⟨by omega, by simp⟩
/-- the pattern, without a sign, of N times 2 to the low, if there is one -/
def exactP (N : Nat) (low : Int) : Option Int :=
  if N = 0 then some 0
  else if 52 < (oddN N).log2 ∨ low + twos N < -1074 ∨ 1023 < low + twos N + (oddN N).log2 then none
  else if low + twos N + (oddN N).log2 < -1022 then some ((oddN N * 2 ^ (low + twos N + 1074).toNat : Nat) : Int)
  else some (((low + twos N + (oddN N).log2 + 1023).toNat * 4503599627370496 + (oddN N * 2 ^ (52 - (oddN N).log2) - 4503599627370496) : Nat) : Int)
theorem val_zero (a : Int) (low : Int) : ValOf a 0 low ↔ a = 0 := by
  constructor
  · rintro ⟨a0, a1, fa, V, ka, va⟩
    rw [Nat.zero_mul] at va
    have hV : V = 0 := by
      rcases Nat.mul_eq_zero.1 va with h | h
      · exact h
      · exact absurd h (Nat.ne_of_gt (Nat.two_pow_pos _))
    subst hV
    obtain ⟨f, g, k⟩ := parts_mk 0 0 (by omega) (Or.inr rfl) (by omega)
    refine key_inj a 0 a0 a1 (by omega) (by omega) fa (by decide) ?_
    rw [ka]
    have k' : keyI ((0 * 4503599627370496 + 0 : Nat) : Int) = 0 := by rw [k]; simp
    exact k'.symm
  · rintro rfl
    obtain ⟨f, g, k⟩ := parts_mk 0 0 (by omega) (Or.inr rfl) (by omega)
    exact ⟨by omega, by omega, by decide, 0, k.trans (by simp), by simp⟩
theorem exact_iff (N : Nat) (low : Int) (a : Int) : exactP N low = some a ↔ ValOf a N low := by
  unfold exactP
  by_cases h0 : N = 0
  · subst h0
    rw [if_pos rfl, val_zero]
    simp only [Option.some.injEq]
    exact eq_comm
  · rw [if_neg h0]
    obtain ⟨o1, o2⟩ := odd_twos N h0
    have sh : ValOf a N low ↔ ValOf a (oddN N) (low + twos N) := by
      have := val_shift (a := a) (N := oddN N) (low := low) (twos N)
      rw [← o2] at this
      exact this
    rw [sh]
    have on : oddN N ≠ 0 := by omega
    by_cases h1 : 52 < (oddN N).log2 ∨ low + twos N < -1074 ∨ 1023 < low + twos N + (oddN N).log2
    · rw [if_pos h1]
      exact ⟨(fun h => by cases h), fun h => absurd h (val_none _ _ o1 h1 a)⟩
    · rw [if_neg h1]
      obtain ⟨m1, m2⟩ := val_make (oddN N) (low + twos N) on (by omega) (by omega) (by omega)
      by_cases h2 : low + twos N + (oddN N).log2 < -1022
      · rw [if_pos h2]
        have v := m1 h2
        constructor
        · intro h
          injection h with h
          rw [← h]; exact v
        · intro h; rw [val_unique v h]
      · rw [if_neg h2]
        obtain ⟨c1, c2, c3⟩ := m2 (by omega)
        have v := c3 (by omega)
        constructor
        · intro h
          injection h with h
          rw [← h]; exact v
        · intro h; rw [val_unique v h]
theorem exact_none (N : Nat) (low : Int) : exactP N low = none ↔ ∀ a, ¬ ValOf a N low := by
  constructor
  · intro h a ha
    rw [(exact_iff N low a).2 ha] at h
    cases h
  · intro h
    cases e : exactP N low with
    | none => rfl
    | some a => exact absurd ((exact_iff N low a).1 e) (h a)
/-- digits shifted by a power, noughts behind: the same answer -/
theorem exact_shift (N : Nat) (low : Int) (k : Nat) : exactP (N * 2 ^ k) low = exactP N (low + k) := by
  cases e : exactP N (low + k) with
  | some a => rw [exact_iff]; exact (val_shift k).2 ((exact_iff _ _ _).1 e)
  | none =>
    rw [exact_none] at e ⊢
    exact fun a h => e a ((val_shift k).1 h)
/-- a double's own text is read as it -/
theorem exact_text (a : Nat) (h0 : a ≠ 0) (h1 : a < 9218868437227405312) :
    exactP (valH (hexd 1 :: fracL 13 (fracOf a))) (powOf a - 4 * (fracL 13 (fracOf a)).length) = some (a : Int) :=
  (exact_iff _ _ _).2 (text_val a h0 h1)
theorem exact_range (N : Nat) (low : Int) (a : Int) (h : exactP N low = some a) : 0 ≤ a ∧ a < 9218868437227405312 := by
  obtain ⟨a0, a1, fa, -⟩ := (exact_iff N low a).1 h
  simp only [finB, decide_eq_true_eq] at fa
  omega
end Go.Proofs.YtgkakflnmpoadaaGreatDoor.W.Nu.Q
