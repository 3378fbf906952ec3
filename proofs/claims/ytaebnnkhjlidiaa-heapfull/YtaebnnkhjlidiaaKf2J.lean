import Derived.Test.YtaebnnkhjlidiaaKf1J
/- Bytes that are made and filled; what a cell needs. -/
namespace Go.Proofs.Ytaebnnkhjlidiaa.W
open Go.ChangeShapes Go.WideShapes Go.RowKit Go.Shelf
set_option linter.unusedVariables false
theorem fill_made (W : World) (n : Nat) (hn : n ≤ 8388608) : ∃ w3, (Instr.makeSlice 22 (.int .i64 (n : Int)) (.int .i64 (n : Int))).run Try.prog W = .ok (.slice (some ⟨W.heap.size, 0, none⟩) n n) w3 ∧ Below W.heap.size W w3 ∧ W.heap.size < w3.heap.size ∧ (∀ t, t < n → w3.cell? ⟨W.heap.size, t, none⟩ = some (.int .u8 0)) ∧ ∀ t, w3.frozen? ⟨W.heap.size, t, none⟩ = false := by
  obtain ⟨w', h1, h2, h3⟩ := make_bytes W n hn
  have hU : Upd (fun _ => False) W w' := (Upd.refl (fun _ => False) W).grown h3 (fun k e => by cases e)
  refine ⟨w', h1, hU.below (Nat.le_refl _) (fun k e => e.elim), (h2.lt _ rfl).2, fun t ht => own_at h2 t _ ?_, fun t => ?_⟩
  · rw [List.getElem?_map, List.getElem?_replicate, if_pos ht]; rfl
  · rcases h2.2 with hn' | ⟨g, cap, cur, e, hb, hgg, rest⟩
    · cases hn'.1
    · cases e
      simp [World.frozen?, hgg]
/-- k of n bytes are filled -/
structure Fill (W4 wr : World) (gb n k b : Nat) : Prop where
  cells : ∀ t, t < n → wr.cell? ⟨gb, t, none⟩ = some (.int .u8 ((if t < k then b else 0 : Nat) : Int))
  thaw : ∀ t, wr.frozen? ⟨gb, t, none⟩ = false
  upd : Upd (fun x => x = gb) W4 wr
theorem Fill.first {W4 : World} {gb n b : Nat} (h : ∀ t, t < n → W4.cell? ⟨gb, t, none⟩ = some (.int .u8 0)) (z : ∀ t, W4.frozen? ⟨gb, t, none⟩ = false) : Fill W4 W4 gb n 0 b :=
  ⟨fun t ht => by rw [h t ht]; simp, z, Upd.refl _ _⟩
theorem Fill.step {W4 wr : World} {gb n k b : Nat} (f : Fill W4 wr gb n k b) (hk : k < n) : Fill W4 (wr.setCell ⟨gb, k, none⟩ (.int .u8 (b : Nat))) gb n (k + 1) b := by
  refine ⟨fun t ht => ?_, fun t => by rw [World.frozen?_setCell]; exact f.thaw t, f.upd.trans' ((Upd.refl (fun x => x = gb) wr).setCell (p := ⟨gb, k, none⟩) (.inl rfl) _)⟩
  by_cases h : t = k
  · subst h
    rw [World.cell?_setCell_same _ _ _ (f.cells t ht), if_pos (by omega)]
  · rw [World.cell?_setCell_other _ _ _ _ (fun e => h (by injection e with _ e; exact e.symm)), f.cells t ht]
    by_cases h2 : t < k
    · rw [if_pos h2, if_pos (by omega)]
    · rw [if_neg h2, if_neg (by omega)]
theorem Fill.row {W4 wr : World} {gb n b : Nat} (f : Fill W4 wr gb n n b) : ByteRow wr (some ⟨gb, 0, none⟩) (List.replicate n b) := by
  refine .inr ⟨gb, 0, rfl, fun i hi => ?_⟩
  have hi' : i < n := by simpa using hi
  rw [Nat.zero_add, f.cells i hi', if_pos hi']
  simp
theorem need8 (n : Nat) (hn : n ≤ 200) (gb : Nat) (W : World) : Calls Try.prog 9 #[.agg #[.int .i64 8, .bool false, .int .i64 0, .string ⟨#[]⟩, .slice (some ⟨gb, 0, none⟩) n n, .slice none 0 0, .int .u64 0, .int .i64 0, .int .i64 0]] W fun e w' => e = .returned (.int .i64 (1 + (n + 7) / 8 : Nat)) ∧ Below W.heap.size W w' := by
  have := need_c 8 false 0 ⟨#[]⟩ (some ⟨gb, 0, none⟩) none n n 0 0 0 0 0 (by decide) (by omega) (by omega) W
  exact this
end Go.Proofs.Ytaebnnkhjlidiaa.W
