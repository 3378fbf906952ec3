import Derived.Test.YtgmimmdojkoppaaGreatDoorO8bJ
/- casketlaw10's box of any number; sameness of what was reckoned. -/
namespace Go.Proofs.YtgmimmdojkoppaaGreatDoor.W.Nu
open Go.ChangeShapes Go.WideShapes Go.RowKit Go.Shelf
set_option linter.unusedVariables false
def nw (a : Bool) (i : Int) : Int := if a = true then i else 0
def nd (a : Bool) (u : Int) : Int := if a = true then 0 else Go.Proofs.YtgmimmdojkoppaaGreatDoor.W.fltW u
section
variable {W0 W : World} {hb : Nat} {H : List (Option Hc)} {u' : Nat} {K : Nat → Prop}
set_option maxRecDepth 100000 in
theorem lbox_w (q : Hf W0 W hb H u' K) (vr : Value) (rs : List Nat) (hr : WordsAt W vr rs) (i u : Int) (h0 : -9223372036854775808 ≤ i) (h1 : i ≤ 9223372036854775807) (hf : sumH H + 2 ≤ u') (hH : H.length ≤ 1000000) :
    Calls Tryz.prog 5 #[.pointer (some ⟨hb, 0, none⟩), .agg #[.bool true, .int .i64 i, .int .u64 u], vr] W (LB W0 W hb H u' K (fun H' w => IsInt H' w i) (nI i)) := by
  have hB : Below W.heap.size W ((W.alloc (.cells #[.bool true, .int .i64 i, .int .u64 u] 30)).alloc (.cells #[.int .i64 2, .int .i64 i, .int .u64 0, .string ⟨#[]⟩, .int .u64 0] 47)) := ((Below.refl _ W).alloc (Nat.le_refl _) _).alloc (by rw [World.size_alloc]; omega) _
  have cx := (boxI (q.below' hB) vr rs (words_below hr hB) i h0 h1 hf hH).mono (fun e w' h => BPost.on hB h)
  obtain ⟨o1, cap1, hvr, -⟩ := id hr
  subst hvr
  clear q hr h0 h1 hf hH hB
  go_enter Tryz.func5, Tryz.ntmps5
  go_wp2_with (go_at_call 13; (with_reducible refine cx.mono ?_); rintro e w3 ⟨w, H', rfl, h3⟩; clear cx)
  go_ret2
  exact ⟨w, H', rfl, h3⟩
set_option maxRecDepth 100000 in
theorem lbox_d (q : Hf W0 W hb H u' K) (vr : Value) (i bi : Int) (h0 : 0 ≤ bi) (h1 : bi < 18446744073709551616) :
    Calls Tryz.prog 5 #[.pointer (some ⟨hb, 0, none⟩), .agg #[.bool false, .int .i64 i, .int .u64 bi], vr] W (LB W0 W hb H u' K (fun _ w => (w : Int) = Go.Proofs.YtgmimmdojkoppaaGreatDoor.W.fltW bi) 0) := by
  have hB : Below W.heap.size W ((W.alloc (.cells #[.bool false, .int .i64 i, .int .u64 bi] 30)).alloc (.cells #[.int .i64 3, .int .i64 0, .int .u64 bi, .string ⟨#[]⟩, .int .u64 0] 47)) := ((Below.refl _ W).alloc (Nat.le_refl _) _).alloc (by rw [World.size_alloc]; omega) _
  have cx := (boxF (q.below' hB) vr bi h0 h1).mono (fun e w' h => BPost.on hB h)
  clear q h0 h1 hB
  go_enter Tryz.func5, Tryz.ntmps5
  go_wp2_with (go_at_call 13; (with_reducible refine cx.mono ?_); rintro e w3 ⟨w, H', rfl, h3⟩; (replace h3 := hid h3); clear cx)
  go_ret2
  exact ⟨w, H', rfl, h3.out⟩
/-- behind the box of any number -/
def LN (W0 W1 : World) (hb : Nat) (H : List (Option Hc)) (u : Nat) (K : Nat → Prop) (a : Bool) (i v : Int) (e : Ending) (w' : World) : Prop := ∃ (w : Nat) (H' : List (Option Hc)), e = .returned (.tuple #[.int .u64 (w : Nat), .bool true]) ∧ Hf W0 w' hb H' u K ∧ Ext H H' ∧ IsNum H' w a i v ∧ sumH H' ≤ sumH H + 2 ∧ H'.length ≤ H.length + 1 ∧ Upd (Ch W0 K) W1 w'
theorem lbox_n (q : Hf W0 W hb H u' K) (vr : Value) (rs : List Nat) (hr : WordsAt W vr rs) (a : Bool) (i u : Int) (h0 : -9223372036854775808 ≤ i) (h1 : i ≤ 9223372036854775807) (u0 : 0 ≤ u) (u1 : u < 18446744073709551616) (hf : sumH H + 2 ≤ u') (hH : H.length ≤ 1000000) :
    Calls Tryz.prog 5 #[.pointer (some ⟨hb, 0, none⟩), .agg #[.bool a, .int .i64 i, .int .u64 u], vr] W (LN W0 W hb H u' K a (nw a i) (nd a u)) := by
  cases a
  · refine (lbox_d q vr i u u0 u1).mono ?_
    rintro e w' ⟨w, H', rfl, h1, h2, h3, h4, h5, h6, h7, h8⟩
    exact ⟨w, H', rfl, h1, h2, flt_num h3 h7, by omega, h5, h8⟩
  · refine (lbox_w q vr rs hr i u h0 h1 hf hH).mono ?_
    rintro e w' ⟨w, H', rfl, p1, p2, p3, p4, p5, p6, p7, p8⟩
    have := nI_le i
    exact ⟨w, H', rfl, p1, p2, .inl ⟨rfl, rfl, p3, h0, by show i < _; omega⟩, by omega, p5, p8⟩
theorem cells_upd {W' : World} {n : Nat} {A : Array Value} (hU : Upd (Ch W0 K) W W') (hk : K n) (hl : n < W.heap.size) (f : ∀ i, W.cell? ⟨n, i, none⟩ = A[i]?) : ∀ i, W'.cell? ⟨n, i, none⟩ = A[i]? := fun i => by
  rw [← f i]
  exact World.cell?_of_block (hU.block n hl (fun c => c.1 hk))
theorem cells_keep {W' : World} {n : Nat} {A : Array Value} (hB : Below W.heap.size W W') (hl : n < W.heap.size) (f : ∀ i, W.cell? ⟨n, i, none⟩ = A[i]?) : ∀ i, W'.cell? ⟨n, i, none⟩ = A[i]? := fun i => by
  rw [hB.cell (p := ⟨n, i, none⟩) hl]; exact f i
theorem same_res (q : Hf W0 W hb H u' K) (p s : Nat) (r : Res) (hp' : IsRes H p r) (hs : IsRes H s r) : Calls Tryz.prog 8 #[.pointer (some ⟨hb, 0, none⟩), .int .u64 (p : Nat), .int .u64 (s : Nat)] W fun e w' => e = .returned (.tuple #[.bool true, .int .i64 0]) ∧ Below W.heap.size W w' := by
  rcases hp' with ⟨h1, h2⟩ | ⟨h1, h2, h3⟩
  · rcases hs with ⟨g1, g2⟩ | ⟨g1, _⟩
    · exact same_v W hb p s 2 r.i 0 (unbox_int q.2.choose_spec.1 p _ h2) (fun w hB => unbox_int (q.below' hB).2.choose_spec.1 s _ g2)
    · rw [h1] at g1; cases g1
  · rcases hs with ⟨g1, _⟩ | ⟨g1, g2, g3⟩
    · rw [h1] at g1; cases g1
    · have c : ∀ (z : Nat) (w : World), (z : Int) = Go.Proofs.YtgmimmdojkoppaaGreatDoor.W.fltW r.u → z < 18446744073709551616 → Calls Tryz.prog 18 #[.pointer (some ⟨hb, 0, none⟩), .int .u64 (z : Nat)] w fun e w' => e = .returned (.tuple #[.agg #[.int .i64 3, .int .i64 0, .int .u64 (Go.Proofs.YtgmimmdojkoppaaGreatDoor.W.fltW r.u), .string ⟨#[]⟩, .int .u64 0], .int .i64 0]) ∧ Below w.heap.size w w' := fun z w hz hl => by
        rw [hz]
        exact unbox_flt _ (by omega) (by omega) (fltW_cls r.u) _ w
      exact same_v W hb p s 3 0 (Go.Proofs.YtgmimmdojkoppaaGreatDoor.W.fltW r.u) (c p W h2 h3) (fun w hB => c s w g2 g3)
theorem same_b (W : World) (hb : Nat) (b : Bool) (p : Nat) (hp' : (p : Int) = boolW b) : Calls Tryz.prog 8 #[.pointer (some ⟨hb, 0, none⟩), .int .u64 (p : Nat), .int .u64 (p : Nat)] W fun e w' => e = .returned (.tuple #[.bool true, .int .i64 0]) ∧ Below W.heap.size W w' :=
  same_v W hb p p 1 (bI b) 0 (unbox_b b p hp' _ W) (fun w hB => unbox_b b p hp' _ w)
end
end Go.Proofs.YtgmimmdojkoppaaGreatDoor.W.Nu
