import Derived.Test.YtdncdddaobemaaaGreatDoorBase13
import Derived.BigQuiet
import Derived.Deep.AppendSrc
import Derived.Test.YtdncdddaobemaaaGreatDoorBase1
/- Package ops: comparing operators on numbers, in words. -/
namespace Go.Proofs.YtdncdddaobemaaaGreatDoor.W.Nu
open Go.ChangeShapes Go.WideShapes Go.RowKit Go.Shelf
set_option linter.unusedVariables false
/-- what stands behind an order's first captured variable -/
def PF (g : Nat) (w : World) (cp : Nat) : Prop := w.cell? ⟨cp, 0, none⟩ = some (.func (.func g) #[] #[])
def PS (g : Nat) (w : World) (cp : Nat) : Prop := ∃ cs, w.cell? ⟨cp, 0, none⟩ = some (.func (.func 201) #[] #[.pointer (some ⟨cs, 0, none⟩)]) ∧ w.cell? ⟨cs, 0, none⟩ = some (.func (.func g) #[] #[])
theorem PF.keep {g : Nat} (w w' : World) (cp : Nat) (h : PF g w cp) (hB : Below w.heap.size w w') : PF g w' cp := cell_keep hB h
theorem PS.keep {g : Nat} (w w' : World) (cp : Nat) (h : PS g w cp) (hB : Below w.heap.size w w') : PS g w' cp := by
  obtain ⟨cs, h1, h2⟩ := h
  exact ⟨cs, cell_keep hB h1, cell_keep hB h2⟩
/-- a number that stands in a word: whole, or a double (its own pattern) -/
def IsNum (H : List (Option Hc)) (w : Nat) (a : Bool) (i u : Int) : Prop := (a = true ∧ u = 0 ∧ IsInt H w i ∧ -9223372036854775808 ≤ i ∧ i < 9223372036854775808) ∨ (a = false ∧ i = 0 ∧ (w : Int) = u ∧ Go.Proofs.YtdncdddaobemaaaGreatDoor.W.cls u = 1 ∧ w < 18446744073709551616)
def kV (a : Bool) : Int := if a = true then 2 else 3
theorem IsNum.lt {H : List (Option Hc)} {w : Nat} {a : Bool} {i u : Int} (h : IsNum H w a i u) : w < 18446744073709551616 := by
  rcases h with ⟨_, _, h, _⟩ | ⟨_, _, _, _, h⟩
  · exact IsInt.lt h
  · exact h
theorem IsNum.inN {H : List (Option Hc)} {w : Nat} {a : Bool} {i u : Int} (h : IsNum H w a i u) : inN i u := by
  rcases h with ⟨_, rfl, _, h⟩ | ⟨_, rfl, h1, _, h⟩
  · exact ⟨h, by omega, by omega⟩
  · exact ⟨by omega, by omega, by omega⟩
theorem IsNum.ext {H H' : List (Option Hc)} {w : Nat} {a : Bool} {i u : Int} (h : IsNum H w a i u) (he : Ext H H') : IsNum H' w a i u := by
  rcases h with ⟨h1, h2, h3, h4⟩ | h
  · exact .inl ⟨h1, h2, h3.ext he, h4⟩
  · exact .inr h
theorem unbox_n {W : World} {S : Nat → Prop} {hb : Nat} {H : List (Option Hc)} {u' : Nat} (q : HSt W S hb H u') (w : Nat) (a : Bool) (i u : Int) (h : IsNum H w a i u) :
    Calls Tryz.prog 14 #[.pointer (some ⟨hb, 0, none⟩), .int .u64 w] W fun e w' => e = .returned (.tuple #[.agg #[.int .i64 (kV a), .int .i64 i, .int .u64 u, .string ⟨#[]⟩, .int .u64 0], .int .i64 0]) ∧ Below W.heap.size W w' := by
  rcases h with ⟨rfl, rfl, h, _⟩ | ⟨rfl, rfl, h, hc, hl⟩
  · exact unbox_int q w i h
  · rw [h]
    exact unbox_flt u (by omega) (by omega) hc _ W
theorem IsNum.shape {H : List (Option Hc)} {w : Nat} {a : Bool} {i u : Int} (h : IsNum H w a i u) : (a = true ∧ u = 0) ∨ (a = false ∧ i = 0) := by
  rcases h with ⟨h1, h2, _⟩ | ⟨h1, h2, _⟩
  · exact .inl ⟨h1, h2⟩
  · exact .inr ⟨h1, h2⟩
section
variable {W0 W : World} {hb : Nat} {H : List (Option Hc)} {u' : Nat} {K : Nat → Prop}
end
end Go.Proofs.YtdncdddaobemaaaGreatDoor.W.Nu
/- A row of one's own beside a heap, of whatever one-celled kind. -/
namespace Go.Proofs.YtdncdddaobemaaaGreatDoor.W.Nu
open Go.ChangeShapes Go.WideShapes Go.RowKit Go.Shelf
set_option linter.unusedVariables false
section
variable {W0 W : World} {hb : Nat} {H : List (Option Hc)} {u : Nat} {K : Nat → Prop}
/-- a row of truths of one's own, behind block B -/
structure MineB (B : Nat) (W : World) (K : Nat → Prop) (v : Value) (l : List Bool) : Prop where
  row : W.ownsRow B 4 1 v l.length (l.map Value.bool)
  keep : ∀ k, v.ownBlock = some k → K k
  len : l.length ≤ 900000
theorem MineB.below {B : Nat} {W' : World} {v : Value} {l : List Bool} (o : MineB B W K v l) (hB : Below W.heap.size W W') : MineB B W' K v l :=
  ⟨owns_on o.row (fun k e => hB.block k (o.row.lt k e).2), o.keep, o.len⟩
end
/-- a world behind which old blocks are as they were -/
structure BW (w : World) where
  w' : World
  h : Below w.heap.size w w'
theorem BW.cell {w : World} {a : Addr} {v : Value} (h : w.cell? a = some v) (p : BW w) : p.w'.cell? a = some v := cell_keep p.h h
theorem flt_num {H : List (Option Hc)} {w : Nat} {n : Int} (h : (w : Int) = Go.Proofs.YtdncdddaobemaaaGreatDoor.W.fltW n) (hl : w < 18446744073709551616) : IsNum H w false 0 (Go.Proofs.YtdncdddaobemaaaGreatDoor.W.fltW n) := .inr ⟨rfl, rfl, h, fltW_cls n, hl⟩
end Go.Proofs.YtdncdddaobemaaaGreatDoor.W.Nu
/- Package ops: sums and products of any two numbers, in words; sameness. -/
namespace Go.Proofs.YtdncdddaobemaaaGreatDoor.W.Nu
open Go.ChangeShapes Go.WideShapes Go.RowKit Go.Shelf
set_option linter.unusedVariables false
/-- what a reckoned number is, in a word -/
def IsRes (H : List (Option Hc)) (w : Nat) (r : Res) : Prop := (r.w = true ∧ IsInt H w r.i) ∨ (r.w = false ∧ (w : Int) = Go.Proofs.YtdncdddaobemaaaGreatDoor.W.fltW r.u ∧ w < 18446744073709551616)
theorem IsRes.ext {H H' : List (Option Hc)} {w : Nat} {r : Res} (h : IsRes H w r) (he : Ext H H') : IsRes H' w r := by
  rcases h with ⟨h1, h2⟩ | h
  · exact .inl ⟨h1, h2.ext he⟩
  · exact .inr h
/-- behind an operator that reckons -/
def EP (W0 W1 : World) (hb : Nat) (H : List (Option Hc)) (u : Nat) (K : Nat → Prop) (r : Res) (e : Ending) (w' : World) : Prop := ∃ (w : Nat) (H' : List (Option Hc)), e = .returned (.tuple #[.int .u64 (w : Nat), .int .i64 r.e]) ∧ Hf W0 w' hb H' u K ∧ Ext H H' ∧ sumH H' ≤ sumH H + 2 ∧ H'.length ≤ H.length + 1 ∧ Upd (Ch W0 K) W1 w' ∧ w < 18446744073709551616 ∧ (r.e = 0 → IsRes H' w r) ∧ (r.e ≠ 0 → w = 0)
theorem EP.two {W0 W1 : World} {hb : Nat} {H : List (Option Hc)} {u : Nat} {K : Nat → Prop} {r : Res} : ∀ e w', EP W0 W1 hb H u K r e w' → ∃ x y, e = .returned (.tuple #[.int .u64 x, .int .i64 y]) := fun e w' ⟨w, H', h, _⟩ => ⟨_, _, h⟩
theorem EP.on {W0 W1 W2 W' : World} {hb : Nat} {H : List (Option Hc)} {u : Nat} {K : Nat → Prop} {r : Res} {e : Ending} (hB : Below W1.heap.size W1 W2) (h : EP W0 W2 hb H u K r e W') : EP W0 W1 hb H u K r e W' := by
  obtain ⟨w, H', h1, h2, h3, h4, h5, h6, h7⟩ := h
  exact ⟨w, H', h1, h2, h3, h4, h5, (Upd.of_below hB).trans' h6, h7⟩
theorem nI_le (n : Int) : nI n ≤ 2 := by unfold nI; split <;> omega
section
variable {W0 W : World} {hb : Nat} {H : List (Option Hc)} {u' : Nat} {K : Nat → Prop}
end
set_option maxRecDepth 100000 in
theorem same_v (W : World) (hb p q : Nat) (k i u : Int) (c1 : Calls Tryz.prog 14 #[.pointer (some ⟨hb, 0, none⟩), .int .u64 (p : Nat)] W fun e w' => e = .returned (.tuple #[.agg #[.int .i64 k, .int .i64 i, .int .u64 u, .string ⟨#[]⟩, .int .u64 0], .int .i64 0]) ∧ Below W.heap.size W w')
    (c2 : ∀ w, Below W.heap.size W w → Calls Tryz.prog 14 #[.pointer (some ⟨hb, 0, none⟩), .int .u64 (q : Nat)] w fun e w' => e = .returned (.tuple #[.agg #[.int .i64 k, .int .i64 i, .int .u64 u, .string ⟨#[]⟩, .int .u64 0], .int .i64 0]) ∧ Below w.heap.size w w') :
    Calls Tryz.prog 7 #[.pointer (some ⟨hb, 0, none⟩), .int .u64 (p : Nat), .int .u64 (q : Nat)] W fun e w' => e = .returned (.tuple #[.bool true, .int .i64 0]) ∧ Below W.heap.size W w' := by
  go_enter Tryz.func7, Tryz.ntmps7
  go_upto_region 2 with (go_at_call 14; (with_reducible refine c1.mono ?_); rintro e W1 ⟨rfl, hB1⟩; clear c1)
  have hB2 : Below W.heap.size W (W1.alloc (.cells #[.int .i64 k, .int .i64 i, .int .u64 u, .string ⟨#[]⟩, .int .u64 0] 46)) := hB1.alloc hB1.size _
  have e1 := World.cell?_alloc_new W1 #[.int .i64 k, .int .i64 i, .int .u64 u, .string ⟨#[]⟩, .int .u64 0] 46
  have c3 := c2 _ hB2
  replace hB2 := hid hB2
  clear hB1 c2
  generalize W1.heap.size = b1 at *
  generalize W1.alloc (.cells #[.int .i64 k, .int .i64 i, .int .u64 u, .string ⟨#[]⟩, .int .u64 0] 46) = W2 at *
  go_upto_region 7 with (go_at_call 14; (with_reducible refine c3.mono ?_); rintro e W3 ⟨rfl, hB3⟩; clear c3)
  have hB4 : Below W2.heap.size W2 (W3.alloc (.cells #[.int .i64 k, .int .i64 i, .int .u64 u, .string ⟨#[]⟩, .int .u64 0] 46)) := hB3.alloc hB3.size _
  have l1 : b1 < W2.heap.size := cell_lt (e1 0)
  replace e1 : ∀ j, (W3.alloc (.cells #[.int .i64 k, .int .i64 i, .int .u64 u, .string ⟨#[]⟩, .int .u64 0] 46)).cell? ⟨b1, j, none⟩ = #[.int .i64 k, .int .i64 i, .int .u64 u, .string ⟨#[]⟩, .int .u64 0][j]? := fun j => by rw [hB4.cell (p := ⟨b1, j, none⟩) l1]; exact e1 j
  have e2 := World.cell?_alloc_new W3 #[.int .i64 k, .int .i64 i, .int .u64 u, .string ⟨#[]⟩, .int .u64 0] 46
  have HB := hid (hB2.out.trans (hB4.mono hB2.out.size))
  clear hB3 hB4 hB2 l1
  generalize W3.heap.size = b2 at *
  generalize W3.alloc (.cells #[.int .i64 k, .int .i64 i, .int .u64 u, .string ⟨#[]⟩, .int .u64 0] 46) = W4 at *
  go_wp2
  go_ret2
  exact ⟨rfl, HB.out⟩
end Go.Proofs.YtdncdddaobemaaaGreatDoor.W.Nu
/- Truths in words: Unbox, not. -/
namespace Go.Proofs.YtdncdddaobemaaaGreatDoor.W.Nu
open Go.ChangeShapes Go.WideShapes Go.RowKit Go.Shelf
set_option linter.unusedVariables false
section
variable {W : World} {hb vb : Nat} {vw vr : Value}
end
end Go.Proofs.YtdncdddaobemaaaGreatDoor.W.Nu
/- casketlaw10's box of any number; sameness of what was reckoned. -/
namespace Go.Proofs.YtdncdddaobemaaaGreatDoor.W.Nu
open Go.ChangeShapes Go.WideShapes Go.RowKit Go.Shelf
set_option linter.unusedVariables false
def nw (a : Bool) (i : Int) : Int := if a = true then i else 0
def nd (a : Bool) (u : Int) : Int := if a = true then 0 else Go.Proofs.YtdncdddaobemaaaGreatDoor.W.fltW u
section
variable {W0 W : World} {hb : Nat} {H : List (Option Hc)} {u' : Nat} {K : Nat → Prop}
set_option maxRecDepth 100000 in
theorem lbox_w (q : Hf W0 W hb H u' K) (vr : Value) (rs : List Nat) (hr : WordsAt W vr rs) (i u : Int) (h0 : -9223372036854775808 ≤ i) (h1 : i ≤ 9223372036854775807) (hf : sumH H + 2 ≤ u') (hH : H.length ≤ 1000000) :
    Calls Tryz.prog 5 #[.pointer (some ⟨hb, 0, none⟩), .agg #[.bool true, .int .i64 i, .int .u64 u], vr] W (LB W0 W hb H u' K (fun H' w => IsInt H' w i) (nI i)) := by
  have hB : Below W.heap.size W ((W.alloc (.cells #[.bool true, .int .i64 i, .int .u64 u] 24)).alloc (.cells #[.int .i64 2, .int .i64 i, .int .u64 0, .string ⟨#[]⟩, .int .u64 0] 46)) := ((Below.refl _ W).alloc (Nat.le_refl _) _).alloc (by rw [World.size_alloc]; omega) _
  have cx := (boxI (q.below' hB) vr rs (words_below hr hB) i h0 h1 hf hH).mono (fun e w' h => BPost.on hB h)
  obtain ⟨o1, cap1, hvr, -⟩ := id hr
  subst hvr
  clear q hr h0 h1 hf hH hB
  go_enter Tryz.func5, Tryz.ntmps5
  go_wp2_with (go_at_call 11; (with_reducible refine cx.mono ?_); rintro e w3 ⟨w, H', rfl, h3⟩; clear cx)
  go_ret2
  exact ⟨w, H', rfl, h3⟩
set_option maxRecDepth 100000 in
theorem lbox_d (q : Hf W0 W hb H u' K) (vr : Value) (i bi : Int) (h0 : 0 ≤ bi) (h1 : bi < 18446744073709551616) :
    Calls Tryz.prog 5 #[.pointer (some ⟨hb, 0, none⟩), .agg #[.bool false, .int .i64 i, .int .u64 bi], vr] W (LB W0 W hb H u' K (fun _ w => (w : Int) = Go.Proofs.YtdncdddaobemaaaGreatDoor.W.fltW bi) 0) := by
  have hB : Below W.heap.size W ((W.alloc (.cells #[.bool false, .int .i64 i, .int .u64 bi] 24)).alloc (.cells #[.int .i64 3, .int .i64 0, .int .u64 bi, .string ⟨#[]⟩, .int .u64 0] 46)) := ((Below.refl _ W).alloc (Nat.le_refl _) _).alloc (by rw [World.size_alloc]; omega) _
  have cx := (boxF (q.below' hB) vr bi h0 h1).mono (fun e w' h => BPost.on hB h)
  clear q h0 h1 hB
  go_enter Tryz.func5, Tryz.ntmps5
  go_wp2_with (go_at_call 11; (with_reducible refine cx.mono ?_); rintro e w3 ⟨w, H', rfl, h3⟩; (replace h3 := hid h3); clear cx)
  go_ret2
  exact ⟨w, H', rfl, h3.out⟩
/-- behind the box of any number -/
def LN (W0 W1 : World) (hb : Nat) (H : List (Option Hc)) (u : Nat) (K : Nat → Prop) (a : Bool) (i v : Int) (e : Ending) (w' : World) : Prop := ∃ (w : Nat) (H' : List (Option Hc)), e = .returned (.tuple #[.int .u64 (w : Nat), .bool true]) ∧ Hf W0 w' hb H' u K ∧ Ext H H' ∧ IsNum H' w a i v ∧ sumH H' ≤ sumH H + 2 ∧ H'.length ≤ H.length + 1 ∧ Upd (Ch W0 K) W1 w'
theorem lbox_n (q : Hf W0 W hb H u' K) (vr : Value) (rs : List Nat) (hr : WordsAt W vr rs) (a : Bool) (i u : Int) (h0 : -9223372036854775808 ≤ i) (h1 : i ≤ 9223372036854775807) (u0 : 0 ≤ u) (u1 : u < 18446744073709551616) (hf : sumH H + 2 ≤ u') (hH : H.length ≤ 1000000) :
    Calls Tryz.prog 5 #[.pointer (some ⟨hb, 0, none⟩), .agg #[.bool a, .int .i64 i, .int .u64 u], vr] W (LN W0 W hb H u' K a (nw a i) (nd a u)) := by
  cases a
  · refine (lbox_d q vr i u u0 u1).mono ?_
    rintro e w' ⟨w, H', rfl, h1, h2, h3, h4, h5, h6, h7, h8⟩
    exact ⟨w, H', rfl, h1, h2, flt_num h3 h7, by omega, h5, h8⟩
  · refine (lbox_w q vr rs hr i u h0 h1 hf hH).mono ?_
    rintro e w' ⟨w, H', rfl, p1, p2, p3, p4, p5, p6, p7, p8⟩
    have := nI_le i
    exact ⟨w, H', rfl, p1, p2, .inl ⟨rfl, rfl, p3, h0, by show i < _; omega⟩, by omega, p5, p8⟩
theorem cells_upd {W' : World} {n : Nat} {A : Array Value} (hU : Upd (Ch W0 K) W W') (hk : K n) (hl : n < W.heap.size) (f : ∀ i, W.cell? ⟨n, i, none⟩ = A[i]?) : ∀ i, W'.cell? ⟨n, i, none⟩ = A[i]? := fun i => by
  rw [← f i]
  exact World.cell?_of_block (hU.block n hl (fun c => c.1 hk))
theorem cells_keep {W' : World} {n : Nat} {A : Array Value} (hB : Below W.heap.size W W') (hl : n < W.heap.size) (f : ∀ i, W.cell? ⟨n, i, none⟩ = A[i]?) : ∀ i, W'.cell? ⟨n, i, none⟩ = A[i]? := fun i => by
  rw [hB.cell (p := ⟨n, i, none⟩) hl]; exact f i
end
end Go.Proofs.YtdncdddaobemaaaGreatDoor.W.Nu
/- Contracts of package num: the sign turned. -/
namespace Go.Proofs.YtdncdddaobemaaaGreatDoor.W.Nu
open Go.ChangeShapes Go.WideShapes Go.RowKit
end Go.Proofs.YtdncdddaobemaaaGreatDoor.W.Nu
/- Package ops: two doubles under whatever operator. -/
namespace Go.Proofs.YtdncdddaobemaaaGreatDoor.W.Nu
open Go.ChangeShapes Go.WideShapes Go.RowKit Go.Shelf
set_option linter.unusedVariables false
section
variable {W : World} {hb vb : Nat} {vw vr : Value}
end
/-- what comes out of two doubles -/
def OKc (w c : Int) : Prop := (c = 0 ∧ 0 ≤ w ∧ w < 18446744073709551616 ∧ (Go.Proofs.YtdncdddaobemaaaGreatDoor.W.cls w = 1 ∨ Go.Proofs.YtdncdddaobemaaaGreatDoor.W.cls w = 4)) ∨ (w = 0 ∧ (c = 1 ∨ c = 51))
def NS (W : World) (e : Ending) (w' : World) : Prop := (∃ w c, e = .returned (.tuple #[.int .u64 w, .int .i64 c]) ∧ OKc w c) ∧ Below W.heap.size W w'
theorem NS.two {W : World} : ∀ e w', NS W e w' → ∃ x y, e = .returned (.tuple #[.int .u64 x, .int .i64 y]) := fun e w' ⟨⟨w, c, h, _⟩, _⟩ => ⟨w, c, h⟩
theorem NS.on {W W1 : World} {e : Ending} {w' : World} (hB : Below W.heap.size W W1) (h : NS W1 e w') : NS W e w' := ⟨h.1, hB.trans (h.2.mono hB.size)⟩
section
variable {W : World} {hb : Nat} {x y : Nat} {vr : Value} {rs : List Nat}
end
end Go.Proofs.YtdncdddaobemaaaGreatDoor.W.Nu
/- Package ops: two doubles under whatever text; a double turned; frombits. -/
namespace Go.Proofs.YtdncdddaobemaaaGreatDoor.W.Nu
open Go.ChangeShapes Go.WideShapes Go.RowKit Go.Shelf
set_option linter.unusedVariables false
theorem eg_fromPattern : ∀ args w, (callFunc 34 args).run Tryz.prog w = .ok (.enter 34 args) w := enters_of Tryz.func34 (by kernel_rfl) rfl
section
variable {W : World} {hb vb : Nat} {vw vr : Value} {R : Ending → World → Prop}
end
theorem find_frombits (x5 x6 x7 x8 x9 : Nat) : findL (opsL x5 x6 x7 x8 x9) ⟨#[102, 114, 111, 109, 98, 105, 116, 115]⟩ = some (.agg #[.int .i64 1, .func (.func 34) #[] #[]]) := by kernel_rfl
end Go.Proofs.YtdncdddaobemaaaGreatDoor.W.Nu
