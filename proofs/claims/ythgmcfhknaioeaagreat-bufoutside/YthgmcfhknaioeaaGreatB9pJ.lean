import Derived.Test.YthgmcfhknaioeaaGreatB9oJ
/- Package buf: the pair of a row. -/
namespace Go.Proofs.YthgmcfhknaioeaaGreat.W
open Go.ChangeShapes Go.WideShapes Go.RowKit Go.Shelf
set_option linter.unusedVariables false
/-- the boxes of a row's pair -/
structure WordAt (W : World) (Bh Bx Bc hb w : Nat) (row : Array Value) : Prop where
  h : Boxed W Bh 22 (.pointer (some ⟨hb, 0, none⟩))
  x : Boxed W Bx 26 (.int .u64 (w : Nat))
  c : W.heap[Bc]? = some (.cells row 39)
theorem WordAt.below {W W' : World} {Bh Bx Bc hb w : Nat} {row : Array Value} (r : WordAt W Bh Bx Bc hb w row) (hB : Below W.heap.size W W') : WordAt W' Bh Bx Bc hb w row :=
  ⟨box_of (hB.block _ r.h.lt) r.h, box_of (hB.block _ r.x.lt) r.x, (hB.block _ (lt_get r.c)).trans r.c⟩
set_option maxRecDepth 100000 in
theorem words_pair (W : World) (hb w : Nat) (vw : Bool) (ob ow : Option Addr) (bl bc wl wc : Nat) (ba fr ln : Int) : Calls Tryz.prog 70 #[.pointer (some ⟨hb, 0, none⟩), .int .u64 (w : Nat), .agg #[.int .i64 9, .bool vw, .int .i64 0, .string ⟨#[]⟩, .slice ob bl bc, .slice ow wl wc, .int .u64 ba, .int .i64 fr, .int .i64 ln]] W fun e w' => ∃ Bh Bx Bc, e = .returned (.agg #[(.func (.func 111) #[] #[.pointer (some ⟨Bc, 0, none⟩)]), (.func (.func 112) #[] #[.pointer (some ⟨Bh, 0, none⟩), .pointer (some ⟨Bx, 0, none⟩)])]) ∧ Below W.heap.size W w' ∧ WordAt w' Bh Bx Bc hb w #[.int .i64 9, .bool vw, .int .i64 0, .string ⟨#[]⟩, .slice ob bl bc, .slice ow wl wc, .int .u64 ba, .int .i64 fr, .int .i64 ln] := by
  have b1 : Below W.heap.size W (W.alloc (.cells #[.pointer (some ⟨hb, 0, none⟩)] 22)) := (Below.refl _ W).alloc (Nat.le_refl _) _
  have s1 : (W.alloc (.cells #[.pointer (some ⟨hb, 0, none⟩)] 22)).heap.size = W.heap.size + 1 := World.size_alloc ..
  have x1 := Boxed.new W 22 (.pointer (some ⟨hb, 0, none⟩))
  generalize hW1 : W.alloc (.cells #[.pointer (some ⟨hb, 0, none⟩)] 22) = W1 at *
  have b2 : Below W1.heap.size W1 (W1.alloc (.cells #[.int .u64 (w : Nat)] 26)) := (Below.refl _ W1).alloc (Nat.le_refl _) _
  have s2 : (W1.alloc (.cells #[.int .u64 (w : Nat)] 26)).heap.size = W1.heap.size + 1 := World.size_alloc ..
  have x2 := Boxed.new W1 26 (.int .u64 (w : Nat))
  generalize hW2 : W1.alloc (.cells #[.int .u64 (w : Nat)] 26) = W2 at *
  have b3 : Below W2.heap.size W2 (W2.alloc (.cells #[.int .i64 9, .bool vw, .int .i64 0, .string ⟨#[]⟩, .slice ob bl bc, .slice ow wl wc, .int .u64 ba, .int .i64 fr, .int .i64 ln] 39)) := (Below.refl _ W2).alloc (Nat.le_refl _) _
  have s3 : (W2.alloc (.cells #[.int .i64 9, .bool vw, .int .i64 0, .string ⟨#[]⟩, .slice ob bl bc, .slice ow wl wc, .int .u64 ba, .int .i64 fr, .int .i64 ln] 39)).heap.size = W2.heap.size + 1 := World.size_alloc ..
  have x3 := World.alloc_heap_new W2 (.cells #[.int .i64 9, .bool vw, .int .i64 0, .string ⟨#[]⟩, .slice ob bl bc, .slice ow wl wc, .int .u64 ba, .int .i64 fr, .int .i64 ln] 39)
  generalize hW3 : W2.alloc (.cells #[.int .i64 9, .bool vw, .int .i64 0, .string ⟨#[]⟩, .slice ob bl bc, .slice ow wl wc, .int .u64 ba, .int .i64 fr, .int .i64 ln] 39) = W3 at *
  have b4 : Below W3.heap.size W3 (W3.alloc (.cells #[.nilFunc, .nilFunc] 78)) := (Below.refl _ W3).alloc (Nat.le_refl _) _
  have f4 := World.alloc_heap_new W3 (.cells #[.nilFunc, .nilFunc] 78)
  generalize hW4 : W3.alloc (.cells #[.nilFunc, .nilFunc] 78) = W4 at *
  have eR := fun j => cell_of_row W4 W3.heap.size j _ _ _ f4
  have zR : ∀ j, W4.frozen? ⟨W3.heap.size, j, none⟩ = false := fun j => by simp [World.frozen?, f4]
  have at4 : Hid (WordAt W4 W.heap.size W1.heap.size W2.heap.size hb w #[.int .i64 9, .bool vw, .int .i64 0, .string ⟨#[]⟩, .slice ob bl bc, .slice ow wl wc, .int .u64 ba, .int .i64 fr, .int .i64 ln] ∧ Below W.heap.size W W4 ∧ W.heap.size ≤ W3.heap.size ∧ W.heap.size ≠ W3.heap.size ∧ W1.heap.size ≠ W3.heap.size ∧ W2.heap.size ≠ W3.heap.size) := by
    refine hid ⟨⟨box_of (b4.block _ (by omega)) (box_of (b3.block _ (by omega)) (box_of (b2.block _ (by omega)) x1)), box_of (b4.block _ (by omega)) (box_of (b3.block _ (by omega)) x2), (b4.block _ (by omega)).trans x3⟩, ?_, by omega, by omega, by omega, by omega⟩
    exact ((b1.trans (b2.mono (by omega))).trans (b3.mono (by omega))).trans (b4.mono (by omega))
  have FR := hid f4
  clear b1 s1 x1 b2 s2 x2 b3 s3 x3 b4 f4
  go_enter Tryz.func70, Tryz.ntmps70
  go_upto_region 1 with fail
  clear hW1 hW2 hW3 hW4
  go_wp2
  refine bodyPost_ret (pair_ret rfl _ _ W3.heap.size _ _ (0, 0) rfl (two_set FR.out _ _)) rfl ?_
  obtain ⟨a4, hB4, l3, n0, n1, n2⟩ := at4.out
  exact ⟨_, _, _, rfl, two_below hB4 l3 _ _, box_of (two_far _ _ _ _ _ n0) a4.h, box_of (two_far _ _ _ _ _ n1) a4.x, (two_far _ _ _ _ _ n2).trans a4.c⟩
section
variable {W W' : World} {hb sb : Nat} {vc : Value} {T : Nat → Prop} {H : List (Option Hc)} {u h : Nat}
theorem words2_c (g : HLay W hb sb vc T H u h) (w : Nat) (hw : w < 18446744073709551616) (id : Nat) (hi : hit H w = some id) (ws : List Nat) (hc : H[id]? = some (some (.row ws))) (i : Nat) (hj : i < ws.length) (x : Nat) (hx : x < 18446744073709551616) (hv : isVal H x = true) {Bh Bx Bc : Nat} {row : Array Value} (r : WordAt W Bh Bx Bc hb w row) (vk va vb vr : Int) (vt : ByteArray) :
    Calls Tryz.prog 112 #[.int .i64 i, .int .u64 x, .agg #[.int .i64 vk, .int .i64 va, .int .u64 vb, .string vt, .int .u64 vr], .pointer (some ⟨Bh, 0, none⟩), .pointer (some ⟨Bx, 0, none⟩)] W fun e w' => e = .returned (.int .i64 0) ∧ Upd T W w' ∧ HLay w' hb sb vc T (H.set id (some (.row (ws.set i x)))) u h := by
  have hB1 : Below W.heap.size W (W.alloc (.cells #[.int .i64 vk, .int .i64 va, .int .u64 vb, .string vt, .int .u64 vr] 49)) := (Below.refl _ W).alloc (Nat.le_refl _) _
  have cs0 := hset_c g w hw id hi ws hc i hj x hx hv
  have cs1 := hset_c (g.below hB1) w hw id hi ws hc i hj x hx hv
  have e1 := (r.below hB1).h.cell
  have e2 := (r.below hB1).x.cell
  generalize (H.set id (some (.row (ws.set i x)))) = HH at *
  generalize hW1 : W.alloc (.cells #[.int .i64 vk, .int .i64 va, .int .u64 vb, .string vt, .int .u64 vr] 49) = W1 at *
  have HB := hid hB1
  clear g hi hc hj hx hv r hB1 cs0
  go_enter Tryz.func112, Tryz.ntmps112
  go_wp2_with (go_at_call 113; (with_reducible refine cs1.mono ?_); rintro e w3 ⟨rfl, hU, hL⟩; clear cs1)
  go_ret
  exact ⟨rfl, (Upd.of_below HB.out).trans' hU, hL⟩
end
end Go.Proofs.YthgmcfhknaioeaaGreat.W
