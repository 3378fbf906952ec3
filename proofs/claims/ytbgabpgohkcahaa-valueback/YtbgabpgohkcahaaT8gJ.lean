import Derived.Test.YtbgabpgohkcahaaT8fJ
/- A row of words of a statement's own, beside its heap: append. -/
namespace Go.Proofs.Ytbgabpgohkcahaa.W
open Go.ChangeShapes Go.WideShapes Go.RowKit Go.Shelf
set_option linter.unusedVariables false
/-- words, as they stand in a row -/
def wds (ws : List Nat) : List Value := ws.map (fun x => .int .u64 (x : Nat))
section
variable {W0 W W1 W' : World} {hb : Nat} {H : List (Option Hc)} {u : Nat} {K K' : Nat → Prop}
theorem Hf.upd' {D : Nat → Prop} (q : Hf W0 W hb H u K) (hU : Upd D W W') (hD : ∀ k, D k → K k ∧ W0.heap.size ≤ k) : Hf W0 W' hb H u (fun k => K k ∨ (W.heap.size ≤ k ∧ k < W'.heap.size)) := by
  obtain ⟨h1, S, h2, h3, h4⟩ := q
  have z := hU.size
  refine ⟨h1.trans (hU.below h1.size (fun k e => (hD k e).2)), S, h2.on z (fun k e hl => hU.block k hl (fun d => (h4 k (hD k d).1).2 e)), fun k e => ⟨(h3 k e).1, by have := (h3 k e).2; omega⟩, ?_⟩
  rintro k (e | e)
  · exact ⟨by have := (h4 k e).1; omega, (h4 k e).2⟩
  · exact ⟨e.2, fun e2 => by have := (h3 k e2).2; omega⟩
/-- a row of words of one's own -/
structure Mine (W0 W : World) (K : Nat → Prop) (v : Value) (ws : List Nat) : Prop where
  row : W.ownsRow W0.heap.size 22 1 v ws.length (wds ws)
  keep : ∀ k, v.ownBlock = some k → K k
  lt : ∀ x ∈ ws, x < 18446744073709551616
  len : ws.length ≤ 900000
theorem Mine.words {v : Value} {ws : List Nat} (o : Mine W0 W K v ws) : WordsAt W v ws := words_own o.row (by have := o.len; omega) o.lt
theorem Mine.upd {v : Value} {ws : List Nat} (o : Mine W0 W K v ws) (hU : Upd (Ch W0 K) W W') : Mine W0 W' K v ws :=
  ⟨owns_on o.row (fun k e => hU.block k (o.row.lt k e).2 (fun h => h.1 (o.keep k e))), o.keep, o.lt, o.len⟩
theorem Mine.below {v : Value} {ws : List Nat} (o : Mine W0 W K v ws) (hB : Below W.heap.size W W') : Mine W0 W' K v ws :=
  ⟨owns_on o.row (fun k e => hB.block k (o.row.lt k e).2), o.keep, o.lt, o.len⟩
theorem Mine.sub {v : Value} {ws : List Nat} (o : Mine W0 W K v ws) (h : ∀ k, K k → K' k) : Mine W0 W K' v ws := ⟨o.row, fun k e => h k (o.keep k e), o.lt, o.len⟩
theorem mine_nil (W0 W : World) (K : Nat → Prop) : Mine W0 W K (.slice none 0 0) [] := ⟨World.ownsRow_nil _ _ _ _, fun k e => (by cases e), fun x h => (by cases h), by decide⟩
theorem mine_lit (hB : W0.heap.size ≤ W.heap.size) (ws : List Nat) (h : ∀ x ∈ ws, x < 18446744073709551616) (hl : ws.length ≤ 900000) : Mine W0 (W.alloc (.cells (wds ws).toArray 22)) (fun k => W.heap.size ≤ k ∧ k < (W.alloc (.cells (wds ws).toArray 22)).heap.size) (.slice (some ⟨W.heap.size, 0, none⟩) ws.length ws.length) ws := by
  have hz : (wds ws).length = ws.length := by unfold wds; simp
  have h1 := World.ownsRow_lit (base := W0.heap.size) (e := 22) (size := 1) W (wds ws).toArray ws.length hB (by unfold maxLen; omega) (by simp [hz])
  refine ⟨by simpa using h1, fun k e => ?_, h, hl⟩
  cases e
  exact ⟨Nat.le_refl _, by rw [World.size_alloc]; exact Nat.lt_succ_self _⟩
/-- a word is put behind -/
theorem mine_append (q : Hf W0 W hb H u K) (ty : TypeId) (v : Value) (ws : List Nat) (o : Mine W0 W K v ws) (x : Nat) (hx : x < 18446744073709551616) (hl : ws.length < 900000) :
    ∃ v' w', (Builtin.append_ #[30, 30] ty #[v, .slice (some ⟨W.heap.size, 0, none⟩) 1 1]).run Try.prog (W.alloc (.cells #[.int .u64 (x : Nat)] 22)) = .ok v' w' ∧ Hf W0 w' hb H u (fun k => K k ∨ (W.heap.size ≤ k ∧ k < w'.heap.size)) ∧ Mine W0 w' (fun k => K k ∨ (W.heap.size ≤ k ∧ k < w'.heap.size)) v' (ws ++ [x]) ∧ Upd (fun k => v.ownBlock = some k) W w' := by
  obtain ⟨i0, hi, hz0, hz1, hz2⟩ := info_parts infoW
  have hB1 : Below W.heap.size W (W.alloc (.cells #[.int .u64 (x : Nat)] 22)) := (Below.refl _ W).alloc (Nat.le_refl _) _
  have z1 : (W.alloc (.cells #[.int .u64 (x : Nat)] 22)).heap.size = W.heap.size + 1 := World.size_alloc ..
  have e0 := World.cell?_alloc_new W #[.int .u64 (x : Nat)] 22
  have ho := o.row.alloc (.cells #[.int .u64 (x : Nat)] 22)
  obtain ⟨v', w', hrun, ho', hg, hk⟩ := append_at (P := Try.prog) (W.alloc (.cells #[.int .u64 (x : Nat)] 22)) 30 ty 22 i0 (.int .u64 0) 1 8 underW hi hz0 hz1 hz2 rfl (by omega) v ws.length (wds ws) (owns_base ho (fun _ _ => Nat.zero_le _)) ⟨W.heap.size, 0, none⟩ 1 1 [.int .u64 (x : Nat)] (by simp) (by
    intro j y hj
    have hj0 : j = 0 := by have := (List.getElem?_eq_some_iff.1 hj).1; simp at this; exact this
    subst hj0
    simp at hj
    subst hj
    have e1 : ((⟨W.heap.size, 0, none⟩ : Addr).add 0) = ⟨W.heap.size, 0, none⟩ := by unfold Addr.add; split <;> simp_all
    rw [e1, e0 0]; rfl) (by intro y hy; simp at hy; rw [hy]; rfl) (by omega) (by omega) (by omega)
  have hlo : ∀ k, v.ownBlock = some k → W0.heap.size ≤ k ∧ k < W.heap.size := fun k e => o.row.lt k e
  have q0 := q.1.size
  have hU1 : Upd (fun k => v.ownBlock = some k) (W.alloc (.cells #[.int .u64 (x : Nat)] 22)) w' := (Upd.refl _ _).grown hg (fun k e => .inl e)
  have hU : Upd (fun k => v.ownBlock = some k) W w' := (Upd.of_below hB1).trans' hU1
  refine ⟨v', w', hrun, q.upd' hU (fun k e => ⟨o.keep k e, (hlo k e).1⟩), ⟨?_, ?_, ?_, by simp; omega⟩, hU⟩
  · have := owns_base ho' (b' := W0.heap.size) (fun g e => by rcases hk g e with e | e
                                                              · exact (hlo g e).1
                                                              · omega)
    unfold wds at *
    rw [List.length_append, List.map_append]
    exact this
  · intro k e
    rcases hk k e with e | e
    · exact .inl (o.keep k e)
    · exact .inr ⟨by omega, e.2⟩
  · intro y hy
    rcases List.mem_append.1 hy with h | h
    · exact o.lt y h
    · simp at h; rw [h]; exact hx
end
/-- behind casketlaw8's box -/
def LPost (W0 : World) (hb : Nat) (H : List (Option Hc)) (u : Nat) (K : Nat → Prop) (t : ByteArray) (e : Ending) (w' : World) : Prop := ∃ (w : Nat) (H' : List (Option Hc)), e = .returned (.tuple #[.int .u64 (w : Nat), .bool true]) ∧ Hf W0 w' hb H' u K ∧ Ext H H' ∧ IsTxt H' w t ∧ sumH H' ≤ sumH H + tneed t ∧ H'.length ≤ H.length + 1
section
variable {W0 W W1 W' : World} {hb : Nat} {H : List (Option Hc)} {u : Nat} {K K' : Nat → Prop}
end
theorem tn_le (t : ByteArray) (n : Nat) (h : t.size ≤ n) : tneed t ≤ 1 + (n + 7) / 8 := by unfold tneed; omega
end Go.Proofs.Ytbgabpgohkcahaa.W
