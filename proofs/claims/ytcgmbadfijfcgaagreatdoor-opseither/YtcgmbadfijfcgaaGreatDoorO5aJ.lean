import Derived.Test.YtcgmbadfijfcgaaGreatDoorO4dJ
/- casketlaw10's box; a row of whole numbers of one's own beside a heap. -/
namespace Go.Proofs.YtcgmbadfijfcgaaGreatDoor.W.Nu
open Go.ChangeShapes Go.WideShapes Go.RowKit Go.Shelf
set_option linter.unusedVariables false
/-- behind casketlaw10's box -/
def LB (W0 W1 : World) (hb : Nat) (H : List (Option Hc)) (u : Nat) (K : Nat → Prop) (V : List (Option Hc) → Nat → Prop) (n : Nat) (e : Ending) (w' : World) : Prop := ∃ (w : Nat) (H' : List (Option Hc)), e = .returned (.tuple #[.int .u64 (w : Nat), .bool true]) ∧ Hf W0 w' hb H' u K ∧ Ext H H' ∧ V H' w ∧ sumH H' = sumH H + n ∧ H'.length ≤ H.length + 1 ∧ (∀ ws, AllR H ws → AllR H' (ws ++ [w])) ∧ w < 18446744073709551616 ∧ Upd (Ch W0 K) W1 w'
section
variable {W0 W : World} {hb : Nat} {H : List (Option Hc)} {u : Nat} {K : Nat → Prop}
theorem cell_upd {W' : World} {n i : Nat} {v : Value} (hU : Upd (Ch W0 K) W W') (hk : K n) (h : W.cell? ⟨n, i, none⟩ = some v) : W'.cell? ⟨n, i, none⟩ = some v := by
  have hl := cell_lt h
  rw [← h]
  exact World.cell?_of_block (hU.block n hl (fun c => c.1 hk))
set_option maxRecDepth 100000 in
theorem lbox_i (q : Hf W0 W hb H u K) (vr : Value) (rs : List Nat) (hr : WordsAt W vr rs) (i : Int) (h0 : -9223372036854775808 ≤ i) (h1 : i ≤ 9223372036854775807) (hf : sumH H + 2 ≤ u) (hH : H.length ≤ 1000000) :
    Calls Tryz.prog 9 #[.pointer (some ⟨hb, 0, none⟩), .agg #[.bool true, .int .i64 i, .int .u64 0], vr] W (LB W0 W hb H u K (fun H' w => IsInt H' w i) (nI i)) := by
  have hB : Below W.heap.size W ((W.alloc (.cells #[.bool true, .int .i64 i, .int .u64 0] 30)).alloc (.cells #[.int .i64 2, .int .i64 i, .int .u64 0, .string ⟨#[]⟩, .int .u64 0] 37)) := ((Below.refl _ W).alloc (Nat.le_refl _) _).alloc (by rw [World.size_alloc]; omega) _
  have cx := (boxI (q.below' hB) vr rs (words_below hr hB) i h0 h1 hf hH).mono (fun e w' h => BPost.on hB h)
  obtain ⟨o1, cap1, hvr, -⟩ := id hr
  subst hvr
  clear q hr h0 h1 hf hH hB
  go_enter Tryz.func9, Tryz.ntmps9
  go_wp2_with (go_at_call 14; (with_reducible refine cx.mono ?_); rintro e w3 ⟨w, H', rfl, h3⟩; clear cx)
  go_ret2
  exact ⟨w, H', rfl, h3⟩
set_option maxRecDepth 100000 in
theorem lbox_f (q : Hf W0 W hb H u K) (vr : Value) (bi : Int) (h0 : 0 ≤ bi) (h1 : bi < 18446744073709551616) :
    Calls Tryz.prog 9 #[.pointer (some ⟨hb, 0, none⟩), .agg #[.bool false, .int .i64 0, .int .u64 bi], vr] W (LB W0 W hb H u K (fun _ w => (w : Int) = Go.Proofs.YtcgmbadfijfcgaaGreatDoor.W.fltW bi) 0) := by
  have hB : Below W.heap.size W ((W.alloc (.cells #[.bool false, .int .i64 0, .int .u64 bi] 30)).alloc (.cells #[.int .i64 3, .int .i64 0, .int .u64 bi, .string ⟨#[]⟩, .int .u64 0] 37)) := ((Below.refl _ W).alloc (Nat.le_refl _) _).alloc (by rw [World.size_alloc]; omega) _
  have cx := (boxF (q.below' hB) vr bi h0 h1).mono (fun e w' h => BPost.on hB h)
  clear q h0 h1 hB
  go_enter Tryz.func9, Tryz.ntmps9
  go_wp2_with (go_at_call 14; (with_reducible refine cx.mono ?_); rintro e w3 ⟨w, H', rfl, h3⟩; (replace h3 := hid h3); clear cx)
  go_ret2
  exact ⟨w, H', rfl, h3.out⟩
theorem wf_i64' {i : Int} (h : (Lit.int .i64 i).wf = true) : -9223372036854775808 ≤ i ∧ i ≤ 9223372036854775807 := by
  simp [Lit.wf] at h
  have e1 : IntKind.i64.min = -9223372036854775808 := by decide
  have e2 : IntKind.i64.max = 9223372036854775807 := by decide
  omega
theorem wf_u64' {i : Int} (h : (Lit.int .u64 i).wf = true) : 0 ≤ i ∧ i < 18446744073709551616 := by
  simp [Lit.wf] at h
  have e1 : IntKind.u64.min = 0 := by decide
  have e2 : IntKind.u64.max = 18446744073709551615 := by decide
  omega
theorem infoL : (Tryz.prog.info? 2).map (fun i => (i.zero, i.size, i.bytes)) = some (some (.int .i64 0), 1, 8) := by kernel_rfl
theorem underL : Tryz.prog.underlying 32 = some (.slice 2) := by kernel_rfl
def ints (l : List Int) : List Value := l.map (Value.int .i64)
/-- a row of whole numbers of one's own, behind block B -/
structure MineI (B : Nat) (W : World) (K : Nat → Prop) (v : Value) (l : List Int) : Prop where
  row : W.ownsRow B 2 1 v l.length (ints l)
  keep : ∀ k, v.ownBlock = some k → K k
  len : l.length ≤ 900000
theorem MineI.upd {B : Nat} {W' : World} {v : Value} {l : List Int} (o : MineI B W K v l) (hU : Upd (Ch W0 K) W W') : MineI B W' K v l :=
  ⟨owns_on o.row (fun k e => hU.block k (o.row.lt k e).2 (fun h => h.1 (o.keep k e))), o.keep, o.len⟩
theorem MineI.below {B : Nat} {W' : World} {v : Value} {l : List Int} (o : MineI B W K v l) (hB : Below W.heap.size W W') : MineI B W' K v l :=
  ⟨owns_on o.row (fun k e => hB.block k (o.row.lt k e).2), o.keep, o.len⟩
theorem mineI_nil (B : Nat) (W : World) (K : Nat → Prop) : MineI B W K (.slice none 0 0) [] := ⟨World.ownsRow_nil _ _ _ _, fun k e => (by cases e), by decide⟩
theorem mineI_append (q : Hf W0 W hb H u K) (B : Nat) (b0 : W0.heap.size ≤ B) (b1 : B ≤ W.heap.size) (ty : TypeId) (v : Value) (l : List Int) (o : MineI B W K v l) (x : Int) (hl : l.length < 900000) :
    ∃ v' w', (Builtin.append_ #[32, 32] ty #[v, .slice (some ⟨W.heap.size, 0, none⟩) 1 1]).run Tryz.prog (W.alloc (.cells #[.int .i64 x] 2)) = .ok v' w' ∧ Hf W0 w' hb H u (fun k => K k ∨ (W.heap.size ≤ k ∧ k < w'.heap.size)) ∧ MineI B w' (fun k => K k ∨ (W.heap.size ≤ k ∧ k < w'.heap.size)) v' (l ++ [x]) ∧ Upd (fun k => v.ownBlock = some k) W w' := by
  obtain ⟨i0, hi, hz0, hz1, hz2⟩ := info_parts infoL
  have hB1 : Below W.heap.size W (W.alloc (.cells #[.int .i64 x] 2)) := (Below.refl _ W).alloc (Nat.le_refl _) _
  have z1 : (W.alloc (.cells #[.int .i64 x] 2)).heap.size = W.heap.size + 1 := World.size_alloc ..
  have e0 := World.cell?_alloc_new W #[.int .i64 x] 2
  have ho := o.row.alloc (.cells #[.int .i64 x] 2)
  obtain ⟨v', w', hrun, ho', hg, hk⟩ := append_at (P := Tryz.prog) (W.alloc (.cells #[.int .i64 x] 2)) 32 ty 2 i0 (.int .i64 0) 1 8 underL hi hz0 hz1 hz2 rfl (by omega) v l.length (ints l) (owns_base ho (fun _ _ => Nat.zero_le _)) ⟨W.heap.size, 0, none⟩ 1 1 [.int .i64 x] (by simp) (by
    intro j y hj
    have hj0 : j = 0 := by have := (List.getElem?_eq_some_iff.1 hj).1; simp at this; exact this
    subst hj0
    simp at hj
    subst hj
    have e1 : ((⟨W.heap.size, 0, none⟩ : Addr).add 0) = ⟨W.heap.size, 0, none⟩ := by unfold Addr.add; split <;> simp_all
    rw [e1, e0 0]; rfl) (by intro y hy; simp at hy; rw [hy]; rfl) (by omega) (by omega) (by omega)
  have hlo : ∀ k, v.ownBlock = some k → B ≤ k ∧ k < W.heap.size := fun k e => o.row.lt k e
  have q0 := q.1.size
  have hU1 : Upd (fun k => v.ownBlock = some k) (W.alloc (.cells #[.int .i64 x] 2)) w' := (Upd.refl _ _).grown hg (fun k e => .inl e)
  have hU : Upd (fun k => v.ownBlock = some k) W w' := (Upd.of_below hB1).trans' hU1
  refine ⟨v', w', hrun, q.upd' hU (fun k e => ⟨o.keep k e, by have := (hlo k e).1; omega⟩), ⟨?_, ?_, by simp; omega⟩, hU⟩
  · have := owns_base ho' (b' := B) (fun g e => by rcases hk g e with e | e
                                                   · exact (hlo g e).1
                                                   · omega)
    unfold ints at *
    rw [List.length_append, List.map_append]
    exact this
  · intro k e
    rcases hk k e with e | e
    · exact .inl (o.keep k e)
    · exact .inr ⟨by omega, e.2⟩
theorem hf_aside (q : Hf W0 W hb H u K) (o : Obj) : ∃ K' : Nat → Prop, Hf W0 (W.alloc o) hb H u K' ∧ K' W.heap.size ∧ (∀ k, K k → K' k) :=
  ⟨_, q.below ((Below.refl _ W).alloc (Nat.le_refl _) o), .inr ⟨Nat.le_refl _, by rw [World.size_alloc]; omega⟩, fun k h => .inl h⟩
theorem mineI_app (q : Hf W0 W hb H u K) (B : Nat) (b0 : W0.heap.size ≤ B) (b1 : B ≤ W.heap.size) (ty : TypeId) (v : Value) (l : List Int) (o : MineI B W K v l) (x : Int) (hl : l.length < 900000) :
    ∃ (v' : Value) (w' : World) (K' : Nat → Prop), (Builtin.append_ #[32, 32] ty #[v, .slice (some ⟨W.heap.size, 0, none⟩) 1 1]).run Tryz.prog (W.alloc (.cells #[.int .i64 x] 2)) = .ok v' w' ∧ (∀ k, K k → K' k) ∧ Hf W0 w' hb H u K' ∧ MineI B w' K' v' (l ++ [x]) ∧ (∀ (n i : Nat) (y : Value), n < B → W.cell? ⟨n, i, none⟩ = some y → w'.cell? ⟨n, i, none⟩ = some y) ∧ W.heap.size ≤ w'.heap.size := by
  obtain ⟨v', w', h1, h2, h3, h4⟩ := mineI_append q B b0 b1 ty v l o x hl
  refine ⟨v', w', _, h1, fun k h => .inl h, h2, h3, fun n i y hn hy => ?_, h4.size⟩
  rw [← hy]
  exact World.cell?_of_block (h4.block n (cell_lt hy) (fun e => by have := (o.row.lt n e).1; omega))
end
end Go.Proofs.YtcgmbadfijfcgaaGreatDoor.W.Nu
