import Derived.Test.YtgmimmdojkoppaaGreatDoorO4dJ
/- casketlaw10's box; a row of whole numbers of one's own beside a heap. -/
namespace Go.Proofs.YtgmimmdojkoppaaGreatDoor.W.Nu
open Go.ChangeShapes Go.WideShapes Go.RowKit Go.Shelf
set_option linter.unusedVariables false
/-- behind casketlaw10's box -/
def LB (W0 W1 : World) (hb : Nat) (H : List (Option Hc)) (u : Nat) (K : Nat → Prop) (V : List (Option Hc) → Nat → Prop) (n : Nat) (e : Ending) (w' : World) : Prop := ∃ (w : Nat) (H' : List (Option Hc)), e = .returned (.tuple #[.int .u64 (w : Nat), .bool true]) ∧ Hf W0 w' hb H' u K ∧ Ext H H' ∧ V H' w ∧ sumH H' = sumH H + n ∧ H'.length ≤ H.length + 1 ∧ (∀ ws, AllR H ws → AllR H' (ws ++ [w])) ∧ w < 18446744073709551616 ∧ Upd (Ch W0 K) W1 w'
section
variable {W0 W : World} {hb : Nat} {H : List (Option Hc)} {u : Nat} {K : Nat → Prop}
theorem cell_upd {W' : World} {n i : Nat} {v : Value} (hU : Upd (Ch W0 K) W W') (hk : K n) (h : W.cell? ⟨n, i, none⟩ = some v) : W'.cell? ⟨n, i, none⟩ = some v := by
  have hl := cell_lt h
  rw [← h]
  exact World.cell?_of_block (hU.block n hl (fun c => c.1 hk))
set_option maxRecDepth 100000 in
theorem lbox_i (q : Hf W0 W hb H u K) (vr : Value) (rs : List Nat) (hr : WordsAt W vr rs) (i : Int) (h0 : -9223372036854775808 ≤ i) (h1 : i ≤ 9223372036854775807) (hf : sumH H + 2 ≤ u) (hH : H.length ≤ 1000000) :
    Calls Tryz.prog 5 #[.pointer (some ⟨hb, 0, none⟩), .agg #[.bool true, .int .i64 i, .int .u64 0], vr] W (LB W0 W hb H u K (fun H' w => IsInt H' w i) (nI i)) := by
  have hB : Below W.heap.size W ((W.alloc (.cells #[.bool true, .int .i64 i, .int .u64 0] 30)).alloc (.cells #[.int .i64 2, .int .i64 i, .int .u64 0, .string ⟨#[]⟩, .int .u64 0] 47)) := ((Below.refl _ W).alloc (Nat.le_refl _) _).alloc (by rw [World.size_alloc]; omega) _
  have cx := (boxI (q.below' hB) vr rs (words_below hr hB) i h0 h1 hf hH).mono (fun e w' h => BPost.on hB h)
  obtain ⟨o1, cap1, hvr, -⟩ := id hr
  subst hvr
  clear q hr h0 h1 hf hH hB
  go_enter Tryz.func5, Tryz.ntmps5
  go_wp2_with (go_at_call 13; (with_reducible refine cx.mono ?_); rintro e w3 ⟨w, H', rfl, h3⟩; clear cx)
  go_ret2
  exact ⟨w, H', rfl, h3⟩
set_option maxRecDepth 100000 in
theorem lbox_f (q : Hf W0 W hb H u K) (vr : Value) (bi : Int) (h0 : 0 ≤ bi) (h1 : bi < 18446744073709551616) :
    Calls Tryz.prog 5 #[.pointer (some ⟨hb, 0, none⟩), .agg #[.bool false, .int .i64 0, .int .u64 bi], vr] W (LB W0 W hb H u K (fun _ w => (w : Int) = Go.Proofs.YtgmimmdojkoppaaGreatDoor.W.fltW bi) 0) := by
  have hB : Below W.heap.size W ((W.alloc (.cells #[.bool false, .int .i64 0, .int .u64 bi] 30)).alloc (.cells #[.int .i64 3, .int .i64 0, .int .u64 bi, .string ⟨#[]⟩, .int .u64 0] 47)) := ((Below.refl _ W).alloc (Nat.le_refl _) _).alloc (by rw [World.size_alloc]; omega) _
  have cx := (boxF (q.below' hB) vr bi h0 h1).mono (fun e w' h => BPost.on hB h)
  clear q h0 h1 hB
  go_enter Tryz.func5, Tryz.ntmps5
  go_wp2_with (go_at_call 13; (with_reducible refine cx.mono ?_); rintro e w3 ⟨w, H', rfl, h3⟩; (replace h3 := hid h3); clear cx)
  go_ret2
  exact ⟨w, H', rfl, h3.out⟩
theorem wf_i64' {i : Int} (h : (Lit.int .i64 i).wf = true) : -9223372036854775808 ≤ i ∧ i ≤ 9223372036854775807 := by
  simp [Lit.wf] at h
  have e1 : IntKind.i64.min = -9223372036854775808 := by decide
  have e2 : IntKind.i64.max = 9223372036854775807 := by decide
  omega
theorem wf_u64' {i : Int} (h : (Lit.int .u64 i).wf = true) : 0 ≤ i ∧ i < 18446744073709551616 := by
  simp [Lit.wf] at h
  have e1 : IntKind.u64.min = 0 := by decide
  have e2 : IntKind.u64.max = 18446744073709551615 := by decide
  omega
theorem infoL : (Tryz.prog.info? 2).map (fun i => (i.zero, i.size, i.bytes)) = some (some (.int .i64 0), 1, 8) := by kernel_rfl
def ints (l : List Int) : List Value := l.map (Value.int .i64)
/-- a row of whole numbers of one's own, behind block B -/
structure MineI (B : Nat) (W : World) (K : Nat → Prop) (v : Value) (l : List Int) : Prop where
  row : W.ownsRow B 2 1 v l.length (ints l)
  keep : ∀ k, v.ownBlock = some k → K k
  len : l.length ≤ 900000
theorem MineI.upd {B : Nat} {W' : World} {v : Value} {l : List Int} (o : MineI B W K v l) (hU : Upd (Ch W0 K) W W') : MineI B W' K v l :=
  ⟨owns_on o.row (fun k e => hU.block k (o.row.lt k e).2 (fun h => h.1 (o.keep k e))), o.keep, o.len⟩
theorem MineI.below {B : Nat} {W' : World} {v : Value} {l : List Int} (o : MineI B W K v l) (hB : Below W.heap.size W W') : MineI B W' K v l :=
  ⟨owns_on o.row (fun k e => hB.block k (o.row.lt k e).2), o.keep, o.len⟩
theorem mineI_nil (B : Nat) (W : World) (K : Nat → Prop) : MineI B W K (.slice none 0 0) [] := ⟨World.ownsRow_nil _ _ _ _, fun k e => (by cases e), by decide⟩
theorem hf_aside (q : Hf W0 W hb H u K) (o : Obj) : ∃ K' : Nat → Prop, Hf W0 (W.alloc o) hb H u K' ∧ K' W.heap.size ∧ (∀ k, K k → K' k) :=
  ⟨_, q.below ((Below.refl _ W).alloc (Nat.le_refl _) o), .inr ⟨Nat.le_refl _, by rw [World.size_alloc]; omega⟩, fun k h => .inl h⟩
end
end Go.Proofs.YtgmimmdojkoppaaGreatDoor.W.Nu
