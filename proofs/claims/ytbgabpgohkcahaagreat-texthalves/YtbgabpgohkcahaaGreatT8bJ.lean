import Derived.Test.YtbgabpgohkcahaaGreatBase5
import Derived.Lib.AppendZeros
import Derived.Lib.SliceRun
/- slices.Grow and slices.Concat, of words. -/
namespace Go.Proofs.YtbgabpgohkcahaaGreat.W
open Go.ChangeShapes Go.WideShapes Go.RowKit Go.Shelf
set_option linter.unusedVariables false
theorem infoW : (Tryz.prog.info? 26).map (fun i => (i.zero, i.size, i.bytes)) = some (some (.int .u64 0), 1, 8) := by kernel_rfl
theorem underW : Tryz.prog.underlying 31 = some (.slice 26) := by kernel_rfl
theorem grow_run (w : World) (ty : TypeId) (m : Nat) (hm : 0 < m) (hm2 : m ≤ 1000000) : ∃ cap w', (Builtin.append_ #[31, 3] ty #[.slice none 0 0, .int .i64 (m : Int)]).run Tryz.prog w = .ok (.slice (some ⟨w.heap.size, 0, none⟩) m cap) w' ∧ w'.ownsRow w.heap.size 26 1 (.slice (some ⟨w.heap.size, 0, none⟩) 0 cap) 0 [] ∧ w.grownBy w' none ∧ m ≤ cap := by
  obtain ⟨i0, hi, hz0, hz1, hz2⟩ := info_parts infoW
  have hrun := Lib.run_append_nil_zeros (P := Tryz.prog) w 31 3 ty 26 i0 (.int .u64 0) .i64 .i64 underW Tryz.underlying3 hi hz0 m hm (by omega) (by omega) (by rw [hz2]; omega)
  refine ⟨_, _, hrun, ⟨by simp, .inr ⟨w.heap.size, _, _, rfl, Nat.le_refl _, heap_alloc_new w.drew _, Nat.zero_le _, grownCap_le_maxLen w _ _ _ (by unfold maxLen; omega), ?_, by simp⟩⟩, ⟨rfl, rfl, rfl, ?_, fun k hk _ => Below.heap_alloc w.drew _ k hk⟩, ?_⟩
  · have h1 : (Value.int .u64 0).cells = #[.int .u64 0] := rfl
    rw [zeroCells_one _ _ h1, zeroCells_one _ _ h1]
    have := grownCap_ge w m 0 26
    simp; omega
  · show w.heap.size ≤ (w.drew.alloc _).heap.size; simp
  · exact grownCap_ge w m 0 26
set_option maxRecDepth 100000 in
theorem grow_c (W : World) (m : Nat) (hm : 0 < m) (hm2 : m ≤ 1000000) : Calls Tryz.prog 66 #[.slice none 0 0, .int .i64 m] W fun e w' => ∃ v, e = .returned v ∧ Below W.heap.size W w' ∧ w'.ownsRow W.heap.size 26 1 v 0 [] := by
  obtain ⟨cap, w1, hrun, hown, hgr, hcap⟩ := grow_run W 31 m hm hm2
  have h1 : ¬ ((m : Int) < 0) := by omega
  have h3 : IntKind.i64.wrap (m : Int) = m := by rw [IntKind.wrap_i64]; omega
  have h4 : (m : Int) > 0 := by omega
  have hB : Below W.heap.size W w1 := ((Upd.refl (fun _ => False) W).grown hgr (fun k e => by cases e)).below (Nat.le_refl _) (fun k e => e.elim)
  go_enter Tryz.func66, Tryz.ntmps66
  go_wp2_with (at_builtin; refine Lib.wpList_append_run _ rfl (.tmp 20) (.tmp 21) 31 3 rfl _ _ (by simp [Act.eval]) (by simp [Act.eval]) _ _ hrun ?_)
  go_ret
  exact ⟨_, rfl, hB, hown⟩
theorem app_words (w : World) (B : Nat) (ty : TypeId) (hB : B ≤ w.heap.size) (v : Value) (n : Nat) (xs : List Value) (hown : w.ownsRow B 26 1 v n xs) (vs : Value) (ws : List Nat) (hw : WordsAt w vs ws) (hn : n + ws.length ≤ 1000000) :
    ∃ v' w', (Builtin.append_ #[31, 31] ty #[v, vs]).run Tryz.prog w = .ok v' w' ∧ w'.ownsRow B 26 1 v' (n + ws.length) (xs ++ ws.map (fun x => .int .u64 (x : Nat))) ∧ w.grownBy w' v.ownBlock := by
  obtain ⟨i0, hi, hz0, hz1, hz2⟩ := info_parts infoW
  obtain ⟨o, cap, rfl, hl, h64, hcell⟩ := hw
  cases o with
  | none =>
    have h0 : ws = [] := by
      cases ws with
      | nil => rfl
      | cons a r => obtain ⟨x, hx, _⟩ := hcell 0 (by simp); cases hx
    subst h0
    refine ⟨v, w, ?_, by simpa using hown, ⟨rfl, rfl, rfl, Nat.le_refl _, fun k _ _ => rfl⟩⟩
    rcases hown.2 with ⟨rfl, rfl⟩ | ⟨g, cap', cur, rfl, _, _, hnc, _⟩
    · simp [Builtin.append_, run_underlying underW, sizeOf, typeInfo, hi, Builtin.lenOf, Builtin.firstCells]
    · simp [Builtin.append_, run_underlying underW, sizeOf, typeInfo, hi, Builtin.lenOf, Builtin.firstCells, hnc, storeCells]
  | some a =>
    have h1 : ∀ j u, (ws.map (fun x => Value.int .u64 (x : Nat)))[j]? = some u → w.cell? (a.add j) = some u := by
      intro j u hj
      rw [List.getElem?_map] at hj
      by_cases hjl : j < ws.length
      · rw [List.getElem?_eq_getElem hjl] at hj
        obtain ⟨x, hx, hc⟩ := hcell j hjl
        cases hx
        simp at hj
        rw [← hj]; exact hc
      · rw [List.getElem?_eq_none (by omega)] at hj; cases hj
    have h2 : ∀ u ∈ ws.map (fun x => Value.int .u64 (x : Nat)), u.oneCell' = true := by
      intro u hu
      obtain ⟨x, _, rfl⟩ := List.mem_map.1 hu
      rfl
    obtain ⟨v', w', hrun, ho, hg, _⟩ := run_append_own w B 31 ty 26 i0 (.int .u64 0) 1 8 underW hi hz0 hz1 hz2 rfl (by omega) v n xs hown a ws.length cap (ws.map (fun x => .int .u64 (x : Nat))) (by simp) h1 h2 (by unfold maxLen; omega) (by omega) hB
    exact ⟨v', w', hrun, ho, hg⟩
theorem words_own {w : World} {B : Nat} {v : Value} {ws : List Nat} (h : w.ownsRow B 26 1 v ws.length (ws.map (fun x => .int .u64 (x : Nat)))) (hl : ws.length ≤ 1000000) (h64 : ∀ x ∈ ws, x < 18446744073709551616) : WordsAt w v ws := by
  rcases h.2 with ⟨rfl, h0⟩ | ⟨g, cap, cur, rfl, _⟩
  · exact ⟨none, 0, by rw [h0], by omega, h64, fun i hi => by omega⟩
  · refine ⟨some ⟨g, 0, none⟩, cap, rfl, by omega, h64, fun i hi => ⟨_, rfl, ?_⟩⟩
    exact h.cells (g := g) rfl i _ (by rw [List.getElem?_map, List.getElem?_eq_getElem hi]; rfl)
set_option maxRecDepth 100000 in
theorem sconcat_c (W : World) (gb cap : Nat) (v1 v2 : Value) (r1 r2 : List Nat) (hc0 : W.cell? ⟨gb, 0, none⟩ = some v1) (hc1 : W.cell? ⟨gb, 1, none⟩ = some v2) (h1 : WordsAt W v1 r1) (h2 : WordsAt W v2 r2) (hl : r1.length + r2.length ≤ 1000000) (hp : 0 < r2.length) :
    Calls Tryz.prog 40 #[.slice (some ⟨gb, 0, none⟩) 2 cap] W fun e w' => ∃ v, e = .returned v ∧ Below W.heap.size W w' ∧ WordsAt w' v (r1 ++ r2) := by
  have cg := grow_c W (r1.length + r2.length) (by omega) hl
  have h1' := h1
  have h2' := h2
  obtain ⟨o1, cap1, rfl, l1, x1, e1⟩ := h1'
  obtain ⟨o2, cap2, rfl, l2, x2, e2⟩ := h2'
  have X1 := hid x1
  have X2 := hid x2
  have HL := hid hl
  clear x1 x2 e1 e2 l1 l2
  generalize hn1 : r1.length = n1 at *
  generalize hn2 : r2.length = n2 at *
  have a1 : IntKind.i64.wrap (n1 : Int) = (n1 : Int) := by rw [IntKind.wrap_i64]; omega
  have a2 : IntKind.i64.wrap ((n1 : Int) + (n2 : Int)) = (n1 : Int) + (n2 : Int) := by rw [IntKind.wrap_i64]; omega
  have b1 : ¬ (n1 : Int) < 0 := by omega
  have b2 : ¬ (n1 : Int) + (n2 : Int) < 0 := by omega
  rw [show ((n1 + n2 : Nat) : Int) = (n1 : Int) + (n2 : Int) by omega] at cg
  have N1 := hid hn1
  have N2 := hid hn2
  clear hn1 hn2 hl
  go_enter Tryz.func40, Tryz.ntmps40
  go_wp2
  refine wp_loop_rounds 3 ?_
  rw [rounds_succ]
  go_wp2
  rw [rounds_succ]
  go_wp2
  rw [rounds_succ]
  go_wp2_with (go_at_call 66; (with_reducible refine cg.mono ?_); rintro e w4 ⟨v, rfl, hB4, hown⟩; clear cg)
  have H1 := hid (words_below h1 hB4)
  obtain ⟨v5, w5, hrun5, hown5, hg5⟩ := app_words w4 W.heap.size 31 hB4.size v 0 [] hown (.slice o1 n1 cap1) r1 H1.out (by rw [N1.out]; have := HL.out; omega)
  have hU5 : Upd (fun k => W.heap.size ≤ k) w4 w5 := (Upd.refl (fun k => W.heap.size ≤ k) w4).grown hg5 (fun k e => .inl (hown.lt k e).1)
  have hB5 : Below W.heap.size W w5 := hB4.trans (hU5.below hB4.size (fun k e => e))
  obtain ⟨v6, w6, hrun6, hown6, hg6⟩ := app_words w5 W.heap.size 31 hB5.size v5 (0 + r1.length) ([] ++ r1.map (fun x => .int .u64 (x : Nat))) hown5 (.slice o2 n2 cap2) r2 (words_below h2 hB5) (by rw [N1.out, N2.out]; have := HL.out; omega)
  have hU6 : Upd (fun k => W.heap.size ≤ k) w5 w6 := (Upd.refl (fun k => W.heap.size ≤ k) w5).grown hg6 (fun k e => .inl (hown5.lt k e).1)
  have hB6 : Below W.heap.size W w6 := hB5.trans (hU6.below hB5.size (fun k e => e))
  have d0 := below_cell hB4 hc0
  have d1 := below_cell hB5 hc1
  have fin : Hid (WordsAt w6 v6 (r1 ++ r2)) := by
    refine words_own (B := W.heap.size) ?_ ?_ ?_
    · rw [List.length_append, List.map_append]
      simpa using hown6
    · rw [List.length_append, N1.out, N2.out]; exact HL.out
    · intro x hx
      rcases List.mem_append.1 hx with h | h
      · exact X1.out x h
      · exact X2.out x h
  have HB6 := hid hB6
  obtain ⟨p0, q0, hv0⟩ := slice_of (owns_base hown (b' := 0) (fun _ _ => Nat.zero_le _))
  obtain ⟨p5, q5, hv5⟩ := slice_of (owns_base hown5 (b' := 0) (fun _ _ => Nat.zero_le _))
  subst hv0
  subst hv5
  clear hown hown5 hown6 hg5 hg6 hU5 hU6 hB5 hB6 hB4 h1 h2
  refine wp_loop_rounds 3 ?_
  rw [rounds_succ]
  go_wp2_with (at_builtin; refine Lib.wpList_append_run _ rfl (.tmp 31) (.tmp 32) 31 31 rfl _ _ (by simp [Act.eval]) (by simp [Act.eval]) _ _ hrun5 ?_)
  rw [rounds_succ]
  go_wp2_with (at_builtin; refine Lib.wpList_append_run _ rfl (.tmp 31) (.tmp 32) 31 31 rfl _ _ (by simp [Act.eval]) (by simp [Act.eval]) _ _ hrun6 ?_)
  rw [rounds_succ]
  go_wp2
  go_ret
  exact ⟨_, rfl, HB6.out, fin.out⟩
end Go.Proofs.YtbgabpgohkcahaaGreat.W
