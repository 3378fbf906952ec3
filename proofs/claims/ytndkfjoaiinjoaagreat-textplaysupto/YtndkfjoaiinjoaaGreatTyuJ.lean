import Derived.Test.YtndkfjoaiinjoaaGreatRows
import Derived.Test.YtndkfjoaiinjoaaGreatBase40
/- A slice of acts that came in: how many roots each has, by the bulk of what came in. -/
namespace Go.Proofs.YtndkfjoaiinjoaaGreat.W.Si
open Go.ChangeShapes Go.WideShapes Go.RowKit
set_option linter.unusedVariables false
theorem bulk_one {H : Type} (d : DataW H) : 1 ≤ Rows.uptoBulk d := by
  cases d with
  | lit l => cases l <;> simp [Rows.uptoBulk]
  | _ => simp [Rows.uptoBulk]
theorem bulk_in {H : Type} {d : DataW H} {l : List (DataW H)} (h : d ∈ l) : Rows.uptoBulk d ≤ Rows.uptoBulkAll l := by
  induction l with
  | nil => cases h
  | cons x r ih =>
    simp only [Rows.uptoBulkAll]
    rcases List.mem_cons.1 h with e | e
    · subst e; omega
    · have := ih e; omega
theorem bulk_len {H : Type} (l : List (DataW H)) : l.length ≤ Rows.uptoBulkAll l := by
  induction l with
  | nil => simp [Rows.uptoBulkAll]
  | cons x r ih => have := bulk_one x; simp only [Rows.uptoBulkAll, List.length_cons]; omega
section
variable {H : Type} {enc : TypeId × Value → H} {w : World} {d : DataW H} {p : List MemPlace} {o : Option Addr} {l c : Nat}
set_option maxRecDepth 100000 in
theorem acts8_bulk (h : DataW.Trod enc Tryz.prog w 0 (fun _ => true) true 51 (.slice o l c) d p) : ∃ F, Acts8 w o l c F ∧ ∀ i, i < l → (F i).l ≤ Rows.uptoBulk d := by
  obtain ⟨fuel, hf⟩ := h
  rcases Deep.open_slice Tryz.underlying51 hf with ⟨hcs, _⟩ | ⟨a, len, cap, m, k, D, Pl, hcs, _, hl, hm, hmm, hx, hall⟩
  · simp [Value.cells] at hcs
    obtain ⟨rfl, rfl, rfl⟩ := hcs
    exact ⟨fun _ => ⟨0, ⟨#[]⟩, 0, 0, 0, 0, 0, none, 0, 0, fun _ => 0⟩, .inl ⟨rfl, rfl⟩, fun i hi => by omega⟩
  · simp [Value.cells] at hcs
    obtain ⟨rfl, rfl, rfl⟩ := hcs
    simp only [if_true] at hmm
    have ce : Tryz.prog.cellsOf 62 = 8 := by kernel_rfl
    have ci : Tryz.prog.cellsOf 3 = 1 := by kernel_rfl
    have cu : Tryz.prog.cellsOf 2 = 1 := by kernel_rfl
    have cs : Tryz.prog.cellsOf 9 = 1 := by kernel_rfl
    have cr : Tryz.prog.cellsOf 60 = 1 := by kernel_rfl
    have hb : ∀ i, ∃ F : A8, i < m → (F.wf w ∧ ∀ j, j < 8 → w.cell? (a.add (i * 8 + j)) = F.cells[j]?) ∧ F.l ≤ Rows.uptoBulk (D i) := by
      intro i
      by_cases hi : i < m
      · obtain ⟨cs', h1, h2⟩ := hall i hi
        rw [ce] at h1
        obtain ⟨_, hlen, hcell⟩ := World.cells?_some h1
        obtain ⟨xs, k', hk, hxy, _, hxl, hfs⟩ := DataW.trod_struct Tryz.underlying62 h2
        match xs, hxl, cs', hlen with
        | [y0, y1, y2, y3, y4, y5, y6, y7], _, [v0, v1, v2, v3, v4, v5, v6, v7], _ =>
          have g0 := hfs 0 _ rfl
          have g1 := hfs 1 _ rfl
          have g2 := hfs 2 _ rfl
          have g3 := hfs 3 _ rfl
          have g4 := hfs 4 _ rfl
          have g5 := hfs 5 _ rfl
          have g6 := hfs 6 _ rfl
          have g7 := hfs 7 _ rfl
          simp [ci, cu, cs, cr] at g0 g1 g2 g3 g4 g5 g6 g7
          obtain ⟨n0, e0, _, f0⟩ := DataW.trod_int Tryz.underlying3 g0
          obtain ⟨n2, e2, _, f2⟩ := DataW.trod_int Tryz.underlying2 g2
          obtain ⟨n3, e3, _, f3⟩ := DataW.trod_int Tryz.underlying3 g3
          obtain ⟨n4, e4, _, f4⟩ := DataW.trod_int Tryz.underlying3 g4
          obtain ⟨n5, e5, _, f5⟩ := DataW.trod_int Tryz.underlying2 g5
          obtain ⟨n6, e6, _, f6⟩ := DataW.trod_int Tryz.underlying2 g6
          obtain ⟨t1, e1, _⟩ := DataW.trod_string Tryz.underlying9 g1
          simp only [List.cons.injEq, and_true] at e0 e1 e2 e3 e4 e5 e6
          have hr : ∃ (o : Option Addr) (l c : Nat) (N : Nat → Int), v7 = .slice o l c ∧ (∀ j, j < l → ∃ a, o = some a ∧ w.cell? (a.add j) = some (.int .i64 (N j))) ∧ l ≤ Rows.uptoBulk y7.1 := by
            rcases open_ints (k := .i64) Tryz.underlying60 Tryz.underlying3 (by kernel_rfl) g7 with ⟨hcs, _⟩ | ⟨a, len, cap, zs, hcs, _, hl, hm, hz, hy7, hcell, hwz⟩
            · simp at hcs
              exact ⟨none, 0, 0, fun _ => 0, hcs, (fun j hj => by omega), Nat.zero_le _⟩
            · simp at hcs
              simp only [if_true] at hz
              refine ⟨some a, len, cap, fun i => zs.getD i 0, hcs, (fun i hi => ⟨a, rfl, hcell i (by omega)⟩), ?_⟩
              rw [hy7]
              simp only [Rows.uptoBulk]
              have hq := bulk_len (H := H) (lits .i64 (zs.take len))
              have hq2 : (lits (H := H) .i64 (zs.take len)).length = len := by simp [lits]; omega
              omega
          obtain ⟨ro, rl, rc, rN, e7, f7, f8⟩ := hr
          refine ⟨⟨n0, t1, n2, n3, n4, n5, n6, ro, rl, rc, rN⟩, fun _ => ⟨⟨⟨f0, f2, f3, f4, f5, f6, f7⟩, fun j hj => ?_⟩, ?_⟩⟩
          rotate_left
          · have hD : D i = .agg [y0.1, y1.1, y2.1, y3.1, y4.1, y5.1, y6.1, y7.1] := congrArg Prod.fst hxy
            rw [hD]
            simp only [Rows.uptoBulk, Rows.uptoBulkAll]
            show rl ≤ _
            omega
          have h3 := hcell j hj
          rw [Deep.add_add] at h3
          rw [h3]
          subst e0 e1 e2 e3 e4 e5 e6 e7
          rfl
      · exact ⟨⟨0, ⟨#[]⟩, 0, 0, 0, 0, 0, none, 0, 0, fun _ => 0⟩, fun h => absurd h hi⟩
    refine ⟨fun i => Classical.choose (hb i), .inr ⟨_, rfl, hl, hm, fun i hi => (Classical.choose_spec (hb i) (by omega)).1⟩, fun i hi => ?_⟩
    refine Nat.le_trans (Classical.choose_spec (hb i) (by omega)).2 ?_
    have hd : d = .slice ((List.range l).map D) ((List.range (m - l)).map fun j => D (l + j)) := congrArg Prod.fst hx
    rw [hd]
    have := bulk_in (H := H) (d := D i) (l := (List.range l).map D) (List.mem_map.2 ⟨i, List.mem_range.2 hi, rfl⟩)
    simp only [Rows.uptoBulk]
    omega
end
end Go.Proofs.YtndkfjoaiinjoaaGreat.W.Si
