/- Package lex: pieces: gaps, marks, whole numbers. -/
import Derived.Test.YtdoojooepkdlhaaDoorX1b
import Derived.Test.YtdoojooepkdlhaaDoorIt1
import Derived.Laws.Rows
import Derived.Laws.OwnMore
namespace Go.Proofs.YtdoojooepkdlhaaDoor.W
open Go.ChangeShapes Go.WideShapes Go.RowKit Go.Shelf
set_option linter.unusedVariables false
theorem pcT : (Tryd.prog.underlying 45).map (fun d => match d with | .struct _ | .array _ _ => true | _ => false) = some true := by kernel_rfl
theorem pcSz : (Tryd.prog.info? 45).map (·.size) = some 7 := by kernel_rfl
/-- a piece is answered out of its box -/
theorem pc_ret {fn : Func} {p : Tmp} (h : fn.results = #[.cell p 45]) (tmps : Array Value) (w : World) (gb : Nat) (v0 v1 v2 v3 v4 v5 v6 : Value) (fr : Nat × Nat) (hp : tmps.getD p undef = .pointer (some ⟨gb, 0, none⟩)) (hg : w.heap[gb]? = some (.cells #[v0, v1, v2, v3, v4, v5, v6] 45 fr)) : (results fn tmps).run Tryd.prog w = .ok (.agg #[v0, v1, v2, v3, v4, v5, v6]) w := by
  have ht := pcT
  cases hu : Tryd.prog.underlying 45 with
  | none => rw [hu] at ht; cases ht
  | some d =>
    rw [hu] at ht
    simp only [Option.map_some, Option.some.injEq] at ht
    refine results_cell_row h tmps w gb _ _ fr d hp hg hu ?_ (by rw [pcSz]; rfl)
    cases d <;> first | rfl | exact ht
theorem heap_setX {W : World} {b : Nat} {c : List Value} {t : TypeId} (hb : W.heap[b]? = some (.cells c.toArray t (0, 0))) (j : Nat) (u : Value) : (W.setCell ⟨b, j, none⟩ u).heap[b]? = some (.cells (c.set j u).toArray t (0, 0)) := by
  simp only [World.setCell, Array.getElem?_modify]
  rw [hb]
  simp
theorem seven_set {w : World} {gb : Nat} {z0 z1 z2 z3 z4 z5 z6 : Value} {t : TypeId} (hg : w.heap[gb]? = some (.cells #[z0, z1, z2, z3, z4, z5, z6] t (0, 0))) (v0 v1 v2 v3 v4 v5 v6 : Value) : (((((((w.setCell ⟨gb, 0, none⟩ v0).setCell ⟨gb, 1, none⟩ v1).setCell ⟨gb, 2, none⟩ v2).setCell ⟨gb, 3, none⟩ v3).setCell ⟨gb, 4, none⟩ v4).setCell ⟨gb, 5, none⟩ v5).setCell ⟨gb, 6, none⟩ v6).heap[gb]? = some (.cells #[v0, v1, v2, v3, v4, v5, v6] t (0, 0)) := by
  have h0 : w.heap[gb]? = some (.cells [z0, z1, z2, z3, z4, z5, z6].toArray t (0, 0)) := hg
  have h1 := heap_setX h0 0 v0
  have h2 := heap_setX h1 1 v1
  have h3 := heap_setX h2 2 v2
  have h4 := heap_setX h3 3 v3
  have h5 := heap_setX h4 4 v4
  have h6 := heap_setX h5 5 v5
  have h7 := heap_setX h6 6 v6
  exact h7
theorem seven_below {w a : World} {gb B : Nat} (h : Below B a w) (hB : B ≤ gb) (v0 v1 v2 v3 v4 v5 v6 : Value) : Below B a (((((((w.setCell ⟨gb, 0, none⟩ v0).setCell ⟨gb, 1, none⟩ v1).setCell ⟨gb, 2, none⟩ v2).setCell ⟨gb, 3, none⟩ v3).setCell ⟨gb, 4, none⟩ v4).setCell ⟨gb, 5, none⟩ v5).setCell ⟨gb, 6, none⟩ v6) :=
  ((((((h.setCell (p := ⟨gb, 0, none⟩) hB v0).setCell (p := ⟨gb, 1, none⟩) hB v1).setCell (p := ⟨gb, 2, none⟩) hB v2).setCell (p := ⟨gb, 3, none⟩) hB v3).setCell (p := ⟨gb, 4, none⟩) hB v4).setCell (p := ⟨gb, 5, none⟩) hB v5).setCell (p := ⟨gb, 6, none⟩) hB v6
/-- a piece as a value -/
def pv (p : Pc) : Value := .agg #[.int .i64 p.t.kind, .int .i64 0, .string p.t.text, .int .i64 p.t.int, .int .u64 p.t.bits, .int .i64 (p.size : Nat), .int .i64 p.code]
theorem eg_inLine : ∀ args w, (callFunc 32 args).run Tryd.prog w = .ok (.enter 32 args) w := enters_of Tryd.func32 (by kernel_rfl) rfl
theorem eg_isBlank : ∀ args w, (callFunc 33 args).run Tryd.prog w = .ok (.enter 33 args) w := enters_of Tryd.func33 (by kernel_rfl) rfl
theorem eg_inName : ∀ args w, (callFunc 34 args).run Tryd.prog w = .ok (.enter 34 args) w := enters_of Tryd.func34 (by kernel_rfl) rfl
theorem eg_isDigit : ∀ args w, (callFunc 35 args).run Tryd.prog w = .ok (.enter 35 args) w := enters_of Tryd.func35 (by kernel_rfl) rfl
theorem eg_hexOrPoint : ∀ args w, (callFunc 39 args).run Tryd.prog w = .ok (.enter 39 args) w := enters_of Tryd.func39 (by kernel_rfl) rfl
theorem head_is (s : ByteArray) (h : 0 < s.size) (n : Nat) (hn : n < 256) : s.data.toList.head? = some n.toUInt8 ↔ s[0].toNat = n := by
  have e : s.data.toList.head? = some s[0] := by rw [List.head?_eq_getElem?, get_at s 0 h]
  rw [e]
  constructor
  · intro e; injection e with e; rw [e]; simp; omega
  · intro e; rw [← e]; simp
theorem gap_c (s : ByteArray) (h0 : 0 < s.size) (hs : s.size ≤ maxLen) (w : World) : Calls Tryd.prog 20 #[.string s] w fun e w' => e = .returned (pv (gapP s.data.toList)) ∧ Below w.heap.size w w' := by
  by_cases c : s[0].toNat = 35
  · have e : gapN s.data.toList = runN lineB s.data.toList := if_pos ((head_is s h0 35 (by decide)).2 c)
    have cr := fun w => run_g s hs 32 lineB eg_inLine inLine_c w
    unfold pv gapP
    rw [e]
    generalize runN lineB s.data.toList = n at *
    clear e hs
    go_enter Tryd.func20, Tryd.ntmps20
    go_wp2_with (go_at_call 31; (with_reducible refine (cr _).mono ?_); rintro e w' ⟨rfl, rfl⟩)
    refine bodyPost_ret (pc_ret rfl _ _ w.heap.size _ _ _ _ _ _ _ (0, 0) rfl (World.alloc_heap_new w _)) rfl ?_; exact ⟨rfl, (Below.refl _ w).alloc (Nat.le_refl _) _⟩
  · have e : gapN s.data.toList = runN blankB s.data.toList := if_neg (fun g => c ((head_is s h0 35 (by decide)).1 g))
    have cr := fun w => run_g s hs 33 blankB eg_isBlank isBlank_c w
    unfold pv gapP
    rw [e]
    generalize runN blankB s.data.toList = n at *
    clear e hs
    go_enter Tryd.func20, Tryd.ntmps20
    go_wp2_with (go_at_call 31; (with_reducible refine (cr _).mono ?_); rintro e w' ⟨rfl, rfl⟩)
    refine bodyPost_ret (pc_ret rfl _ _ w.heap.size _ _ _ _ _ _ _ (0, 0) rfl (World.alloc_heap_new w _)) rfl ?_; exact ⟨rfl, (Below.refl _ w).alloc (Nat.le_refl _) _⟩
theorem cut_to (s : ByteArray) (k : Nat) : s.extract 0 k = ⟨(s.data.toList.take k).toArray⟩ := by
  obtain ⟨⟨l⟩⟩ := s
  rw [ByteArray.extract_mk]
  simp
theorem cut_size (s : ByteArray) (k : Nat) : (s.extract 0 k).size ≤ s.size := by simp; omega
set_option maxHeartbeats 400000 in
theorem whole_c (s : ByteArray) (hs : s.size ≤ maxLen) (w : World) : Calls Tryd.prog 23 #[.string s] w fun e w' => e = .returned (pv (wholeP s.data.toList)) ∧ Below w.heap.size w w' := by
  have cr := fun w => run_g s hs 35 digB eg_isDigit isDigit_c w
  have hn := runN_le digB s.data.toList
  rw [size_list] at hn
  have cp := fun w => parseInt_c (s.extract 0 (runN digB s.data.toList)) (Nat.le_trans (cut_size s _) hs) w
  have el : (s.extract 0 (runN digB s.data.toList)).data.toList = s.data.toList.take (runN digB s.data.toList) := by rw [cut_to]
  rw [el] at cp
  unfold wholeP
  by_cases c : runN digB s.data.toList = 0
  · rw [if_pos c]
    rw [c] at cr
    clear cp hn el c hs
    unfold pv noPc
    go_enter Tryd.func23, Tryd.ntmps23
    go_wp2_with (go_at_call 31; (with_reducible refine (cr _).mono ?_); rintro e w' ⟨rfl, rfl⟩)
    refine bodyPost_ret (pc_ret rfl _ _ w.heap.size _ _ _ _ _ _ _ (0, 0) rfl (World.alloc_heap_new w _)) rfl ?_; exact ⟨rfl, (Below.refl _ w).alloc (Nat.le_refl _) _⟩
  · rw [if_neg c]
    generalize runN digB s.data.toList = n at *
    obtain ⟨⟨v, e⟩, hve⟩ : ∃ x, readI (s.data.toList.take n) = x := ⟨_, rfl⟩
    rw [hve] at cp ⊢
    unfold maxLen at hs
    have hw0 : IntKind.i64.wrap ((n : Nat) : Int) = (n : Nat) := by rw [IntKind.wrap_i64]; omega
    clear el hve
    by_cases c2 : e = 0
    · subst c2
      show Calls _ _ _ _ fun e w' => e = .returned (pv (okPc ⟨4, ⟨#[]⟩, v, 0⟩ n)) ∧ _
      unfold pv okPc
      go_enter Tryd.func23, Tryd.ntmps23
      go_wp2_with (first | (go_at_call 31; (with_reducible refine (cr _).mono ?_); rintro e w' ⟨rfl, rfl⟩) | (go_at_call 42; (with_reducible refine (cp _).mono ?_); rintro e w' ⟨rfl, rfl⟩))
      refine bodyPost_ret (pc_ret rfl _ _ w.heap.size _ _ _ _ _ _ _ (0, 0) rfl (World.alloc_heap_new w _)) rfl ?_; exact ⟨rfl, (Below.refl _ w).alloc (Nat.le_refl _) _⟩
    · rw [if_neg c2]
      unfold pv badPc
      go_enter Tryd.func23, Tryd.ntmps23
      go_wp2_with (first | (go_at_call 31; (with_reducible refine (cr _).mono ?_); rintro e w' ⟨rfl, rfl⟩) | (go_at_call 42; (with_reducible refine (cp _).mono ?_); rintro e w' ⟨rfl, rfl⟩))
      refine bodyPost_ret (pc_ret rfl _ _ w.heap.size _ _ _ _ _ _ _ (0, 0) rfl (World.alloc_heap_new w _)) rfl ?_; exact ⟨rfl, (Below.refl _ w).alloc (Nat.le_refl _) _⟩
end Go.Proofs.YtdoojooepkdlhaaDoor.W
