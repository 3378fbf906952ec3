import Derived.Test.YtgmimmdojkoppaaGreatDoorO6bJ
import Derived.BigQuiet
/- A row of one's own beside a heap, of whatever one-celled kind. -/
namespace Go.Proofs.YtgmimmdojkoppaaGreatDoor.W.Nu
open Go.ChangeShapes Go.WideShapes Go.RowKit Go.Shelf
set_option linter.unusedVariables false
theorem infoBl : (Tryz.prog.info? 4).map (fun i => (i.zero, i.size, i.bytes)) = some (some (.bool false), 1, 1) := by kernel_rfl
theorem underBl : Tryz.prog.underlying 153 = some (.slice 4) := by kernel_rfl
section
variable {W0 W : World} {hb : Nat} {H : List (Option Hc)} {u : Nat} {K : Nat → Prop}
/-- a row of truths of one's own, behind block B -/
structure MineB (B : Nat) (W : World) (K : Nat → Prop) (v : Value) (l : List Bool) : Prop where
  row : W.ownsRow B 4 1 v l.length (l.map Value.bool)
  keep : ∀ k, v.ownBlock = some k → K k
  len : l.length ≤ 900000
theorem MineB.below {B : Nat} {W' : World} {v : Value} {l : List Bool} (o : MineB B W K v l) (hB : Below W.heap.size W W') : MineB B W' K v l :=
  ⟨owns_on o.row (fun k e => hB.block k (o.row.lt k e).2), o.keep, o.len⟩
theorem mineB_nil (B : Nat) (W : World) (K : Nat → Prop) : MineB B W K (.slice none 0 0) [] := ⟨World.ownsRow_nil _ _ _ _, fun k e => (by cases e), by decide⟩
theorem mineB_app (q : Hf W0 W hb H u K) (B : Nat) (b0 : W0.heap.size ≤ B) (b1 : B ≤ W.heap.size) (ty : TypeId) (v : Value) (l : List Bool) (o : MineB B W K v l) (x : Bool) (hl : l.length < 900000) :
    ∃ (v' : Value) (w' : World) (K' : Nat → Prop), (Builtin.append_ #[153, 153] ty #[v, .slice (some ⟨W.heap.size, 0, none⟩) 1 1]).run Tryz.prog (W.alloc (.cells #[.bool x] 4)) = .ok v' w' ∧ (∀ k, K k → K' k) ∧ Hf W0 w' hb H u K' ∧ MineB B w' K' v' (l ++ [x]) ∧ (∀ (n i : Nat) (y : Value), n < B → W.cell? ⟨n, i, none⟩ = some y → w'.cell? ⟨n, i, none⟩ = some y) ∧ W.heap.size ≤ w'.heap.size := by
  obtain ⟨i0, hi, hz0, hz1, hz2⟩ := info_parts infoBl
  have hB1 : Below W.heap.size W (W.alloc (.cells #[.bool x] 4)) := (Below.refl _ W).alloc (Nat.le_refl _) _
  have z1 : (W.alloc (.cells #[.bool x] 4)).heap.size = W.heap.size + 1 := World.size_alloc ..
  have e0 := World.cell?_alloc_new W #[.bool x] 4
  have ho := o.row.alloc (.cells #[.bool x] 4)
  obtain ⟨v', w', hrun, ho', hg, hk⟩ := append_at (P := Tryz.prog) (W.alloc (.cells #[.bool x] 4)) 153 ty 4 i0 (.bool false) 1 1 underBl hi hz0 hz1 hz2 rfl (by omega) v l.length (l.map Value.bool) (owns_base ho (fun _ _ => Nat.zero_le _)) ⟨W.heap.size, 0, none⟩ 1 1 [.bool x] (by simp) (by
    intro j y hj
    have hj0 : j = 0 := by have := (List.getElem?_eq_some_iff.1 hj).1; simp at this; exact this
    subst hj0
    simp at hj
    subst hj
    have e1 : ((⟨W.heap.size, 0, none⟩ : Addr).add 0) = ⟨W.heap.size, 0, none⟩ := by unfold Addr.add; split <;> simp_all
    rw [e1, e0 0]; rfl) (by intro y hy; simp at hy; rw [hy]; rfl) (by omega) (by omega) (by omega)
  have hlo : ∀ k, v.ownBlock = some k → B ≤ k ∧ k < W.heap.size := fun k e => o.row.lt k e
  have q0 := q.1.size
  have hU1 : Upd (fun k => v.ownBlock = some k) (W.alloc (.cells #[.bool x] 4)) w' := (Upd.refl _ _).grown hg (fun k e => .inl e)
  have hU : Upd (fun k => v.ownBlock = some k) W w' := (Upd.of_below hB1).trans' hU1
  refine ⟨v', w', _, hrun, fun k h => .inl h, q.upd' hU (fun k e => ⟨o.keep k e, by have := (hlo k e).1; omega⟩), ⟨?_, ?_, by simp; omega⟩, fun n i y hn hy => ?_, hU.size⟩
  · have := owns_base ho' (b' := B) (fun g e => by rcases hk g e with e | e
                                                   · exact (hlo g e).1
                                                   · omega)
    rw [List.length_append, List.map_append]
    exact this
  · intro k e
    rcases hk k e with e | e
    · exact .inl (o.keep k e)
    · exact .inr ⟨by omega, e.2⟩
  · rw [← hy]
    exact World.cell?_of_block (hU.block n (cell_lt hy) (fun e => by have := (o.row.lt n e).1; omega))
end
/-- a world behind which old blocks are as they were -/
structure BW (w : World) where
  w' : World
  h : Below w.heap.size w w'
theorem wp_region_quiet_below {id : Nat} {Q : Exit → Act → World → Prop} {a : Act} {w : World} {l : List Oper} (hm : Tryz.prog.follows .mixedOrders = true) (hB : Region.lexB .any l.toArray = true)
    (h : wpQuiet Tryz.prog l.toArray (fun w' => ∃ p : BW w, w' = p.w') (fun a' => ∀ w', (∃ p : BW w, w' = p.w') → Q .normal a' w') l a) : (Code.region id l.toArray true).wp Tryz.prog Q a w :=
  wp_region_quiet (C := fun w' => ∃ p : BW w, w' = p.w') hm hB ⟨⟨w.drew, (Below.refl _ w).drew⟩, rfl⟩ (by simpa using h)
theorem BW.calls {P : Program} {f : FuncId} {args : Array Value} {w : World} {p : BW w} {v : Value} (h : Calls P f args p.w' fun e w' => e = .returned v ∧ Below p.w'.heap.size p.w' w') : Calls P f args p.w' fun e w'' => e = .returned v ∧ ∃ p' : BW w, w'' = p'.w' :=
  h.mono fun _ w'' ⟨he, hB⟩ => ⟨he, ⟨w'', p.h.trans (hB.mono p.h.size)⟩, rfl⟩
theorem BW.cell {w : World} {a : Addr} {v : Value} (h : w.cell? a = some v) (p : BW w) : p.w'.cell? a = some v := cell_keep p.h h
theorem nan_flt (n : Int) : nanB (Go.Proofs.YtgmimmdojkoppaaGreatDoor.W.fltW n) = Go.Proofs.YtgmimmdojkoppaaGreatDoor.W.nanB n := by
  show Go.Proofs.YtgmimmdojkoppaaGreatDoor.W.nanB (Go.Proofs.YtgmimmdojkoppaaGreatDoor.W.fltW n) = _
  unfold Go.Proofs.YtgmimmdojkoppaaGreatDoor.W.fltW
  by_cases h : Go.Proofs.YtgmimmdojkoppaaGreatDoor.W.nanB n = true
  · rw [if_pos h, h]; decide
  · rw [if_neg h]
theorem flt_num {H : List (Option Hc)} {w : Nat} {n : Int} (h : (w : Int) = Go.Proofs.YtgmimmdojkoppaaGreatDoor.W.fltW n) (hl : w < 18446744073709551616) : IsNum H w false 0 (Go.Proofs.YtgmimmdojkoppaaGreatDoor.W.fltW n) := .inr ⟨rfl, rfl, h, fltW_cls n, hl⟩
end Go.Proofs.YtgmimmdojkoppaaGreatDoor.W.Nu
