import Derived.Test.YthgmcfhknaioeaaGreatB9pJ
/- Package buf: pairOf of a row; what a row's word is loaded by. -/
namespace Go.Proofs.YthgmcfhknaioeaaGreat.W
open Go.ChangeShapes Go.WideShapes Go.RowKit Go.Shelf
set_option linter.unusedVariables false
theorem words1_c (W : World) (hb w : Nat) (vw : Bool) (ob : Option Addr) (gb : Nat) (bl bc wl wc : Nat) (ba fr ln : Int) {Bh Bx Bc : Nat} (r : WordAt W Bh Bx Bc hb w #[.int .i64 9, .bool vw, .int .i64 0, .string ⟨#[]⟩, .slice ob bl bc, .slice (some ⟨gb, 0, none⟩) wl wc, .int .u64 ba, .int .i64 fr, .int .i64 ln]) (i : Nat) (hi : i < wl) (x : Nat) (hx : W.cell? ⟨gb, i, none⟩ = some (.int .u64 (x : Nat))) :
    Calls Tryz.prog 111 #[.int .i64 i, .pointer (some ⟨Bc, 0, none⟩)] W fun e w' => e = .returned (.int .u64 (x : Nat)) ∧ Below W.heap.size W w' := by
  have e1 := fun j => cell_of_row W Bc j _ _ _ r.c
  have h0 : ¬ (i : Int) < 0 := by omega
  have h1 : (i : Int) < wl := by omega
  clear r
  go_enter Tryz.func111, Tryz.ntmps111
  go_wp2
  go_ret
  exact ⟨rfl, Below.refl _ _⟩
set_option maxRecDepth 100000 in
theorem pairOf_words (W : World) (hb w : Nat) (vw : Bool) (ob ow : Option Addr) (bl bc wl wc : Nat) (ba fr ln : Int) : Calls Tryz.prog 34 #[.pointer (some ⟨hb, 0, none⟩), .int .u64 (w : Nat), .agg #[.int .i64 9, .bool vw, .int .i64 0, .string ⟨#[]⟩, .slice ob bl bc, .slice ow wl wc, .int .u64 ba, .int .i64 fr, .int .i64 ln]] W fun e w' => ∃ Bh Bx Bc, e = .returned (.agg #[(.func (.func 111) #[] #[.pointer (some ⟨Bc, 0, none⟩)]), (.func (.func 112) #[] #[.pointer (some ⟨Bh, 0, none⟩), .pointer (some ⟨Bx, 0, none⟩)])]) ∧ Below W.heap.size W w' ∧ WordAt w' Bh Bx Bc hb w #[.int .i64 9, .bool vw, .int .i64 0, .string ⟨#[]⟩, .slice ob bl bc, .slice ow wl wc, .int .u64 ba, .int .i64 fr, .int .i64 ln] := by
  have hB1 : Below W.heap.size W (W.alloc (.cells #[.int .i64 9, .bool vw, .int .i64 0, .string ⟨#[]⟩, .slice ob bl bc, .slice ow wl wc, .int .u64 ba, .int .i64 fr, .int .i64 ln] 39)) := (Below.refl _ W).alloc (Nat.le_refl _) _
  have hs1 : (W.alloc (.cells #[.int .i64 9, .bool vw, .int .i64 0, .string ⟨#[]⟩, .slice ob bl bc, .slice ow wl wc, .int .u64 ba, .int .i64 fr, .int .i64 ln] 39)).heap.size = W.heap.size + 1 := World.size_alloc ..
  have f1 := World.alloc_heap_new W (.cells #[.int .i64 9, .bool vw, .int .i64 0, .string ⟨#[]⟩, .slice ob bl bc, .slice ow wl wc, .int .u64 ba, .int .i64 fr, .int .i64 ln] 39)
  generalize hW1 : W.alloc (.cells #[.int .i64 9, .bool vw, .int .i64 0, .string ⟨#[]⟩, .slice ob bl bc, .slice ow wl wc, .int .u64 ba, .int .i64 fr, .int .i64 ln] 39) = W1 at *
  have hB2 : Below W1.heap.size W1 (W1.alloc (.cells #[.nilFunc, .nilFunc] 78)) := (Below.refl _ W1).alloc (Nat.le_refl _) _
  have f2 := World.alloc_heap_new W1 (.cells #[.nilFunc, .nilFunc] 78)
  have f12 := (hB2.block _ (by omega)).trans f1
  generalize hW2 : W1.alloc (.cells #[.nilFunc, .nilFunc] 78) = W2 at *
  have e2 := fun j => cell_of_row W2 W.heap.size j _ _ _ f12
  have cr := words_pair W2 hb w vw ob ow bl bc wl wc ba fr ln
  have kp : Hid (∀ w4, Below W2.heap.size W2 w4 → w4.heap[W1.heap.size]? = some (.cells #[.nilFunc, .nilFunc] 78) ∧ Below W.heap.size W w4) := by
    show ∀ w4, _
    intro w4 hB4
    have := hB2.size
    exact ⟨(hB4.block _ (lt_get f2)).trans f2, (hB1.trans (hB2.mono hB1.size)).trans (hB4.mono (by have := hB1.size; omega))⟩
  have HS1 : Hid (W.heap.size ≤ W1.heap.size) := hid hB1.size
  clear hB1 hs1 f1 hB2 f2 f12
  go_enter Tryz.func34, Tryz.ntmps34
  go_upto_region 1 with fail
  clear hW1 hW2
  go_wp2_with (go_at_call 70; (with_reducible refine cr.mono ?_); rintro e w4 ⟨Bh, Bx, Bc, rfl, hB4, hP4⟩; clear cr; (obtain ⟨f4, hB5⟩ := kp.out w4 hB4); (have eR := fun j => cell_of_row w4 W1.heap.size j _ _ _ f4); (have zR := (fun j => by simp [World.frozen?, f4] : ∀ j, w4.frozen? ⟨W1.heap.size, j, none⟩ = false)); (have FR := hid f4); (have HB := hid hB5); (have HP := hid hP4); clear f4 hB5 hP4 hB4 e2)
  refine bodyPost_ret (pair_ret rfl _ _ W1.heap.size _ _ (0, 0) rfl (two_set FR.out _ _)) rfl ?_
  refine ⟨Bh, Bx, Bc, rfl, two_below HB.out HS1.out _ _, ?_⟩
  have ne : ∀ {B t : Nat} {v : Value}, Boxed w4 B t v → B ≠ W1.heap.size := by
    intro B t v hb e
    subst e
    have := FR.out
    unfold Boxed at hb
    rw [hb] at this
    simp at this
  have nc : Bc ≠ W1.heap.size := by
    intro e
    have h1 := HP.out.c
    rw [e, FR.out] at h1
    simp at h1
  exact ⟨box_of (two_far _ _ _ _ _ (ne HP.out.h)) HP.out.h, box_of (two_far _ _ _ _ _ (ne HP.out.x)) HP.out.x, (two_far _ _ _ _ _ nc).trans HP.out.c⟩
end Go.Proofs.YthgmcfhknaioeaaGreat.W
