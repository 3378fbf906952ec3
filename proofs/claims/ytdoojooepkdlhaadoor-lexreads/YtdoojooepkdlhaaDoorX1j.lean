/- Package lex: marks. -/
import Derived.Test.YtdoojooepkdlhaaDoorX1i
import Derived.ChangeKeysEq
namespace Go.Proofs.YtdoojooepkdlhaaDoor.W
open Go.ChangeShapes Go.WideShapes Go.RowKit Go.Shelf
set_option linter.unusedVariables false
set_option linter.unusedSimpArgs false
/-- the package's marks as they are laid -/
def marksV : Array Value := #[.string ⟨#[61, 61]⟩, .string ⟨#[33, 61]⟩, .string ⟨#[60, 61]⟩, .string ⟨#[62, 61]⟩, .string ⟨#[60, 60]⟩, .string ⟨#[62, 62]⟩, .string ⟨#[47, 47]⟩, .string ⟨#[46, 46]⟩, .string ⟨#[43]⟩, .string ⟨#[45]⟩, .string ⟨#[42]⟩, .string ⟨#[47]⟩, .string ⟨#[37]⟩, .string ⟨#[38]⟩, .string ⟨#[124]⟩, .string ⟨#[94]⟩, .string ⟨#[126]⟩, .string ⟨#[60]⟩, .string ⟨#[62]⟩, .string ⟨#[61]⟩, .string ⟨#[40]⟩, .string ⟨#[41]⟩, .string ⟨#[123]⟩, .string ⟨#[125]⟩, .string ⟨#[91]⟩, .string ⟨#[93]⟩, .string ⟨#[44]⟩, .string ⟨#[59]⟩, .string ⟨#[58]⟩]
def MarksAt (w : World) : Prop := ∀ j, w.cell? ⟨0, j, none⟩ = marksV[j]?
theorem marks_all : marksV.toList = marks.map (fun m => Value.string (bytesOf m)) := rfl
theorem marksV_at (k : Nat) (h : k < 29) : marksV[k]? = some (.string (bytesOf (marks[k]'h))) := by
  rw [← Array.getElem?_toList, marks_all, List.getElem?_map, List.getElem?_eq_getElem (show k < marks.length from h)]
  rfl
theorem cells_keepX {w w' : World} {b : Nat} {A : Array Value} (hB : Below w.heap.size w w') (hl : b < w.heap.size) (f : ∀ j, w.cell? ⟨b, j, none⟩ = A[j]?) : ∀ j, w'.cell? ⟨b, j, none⟩ = A[j]? := fun j => by
  rw [hB.cell (p := ⟨b, j, none⟩) hl]; exact f j
theorem cell_ltX {w : World} {b j : Nat} {v : Value} (h : w.cell? ⟨b, j, none⟩ = some v) : b < w.heap.size := by
  by_cases c : b < w.heap.size
  · exact c
  · rw [World.cell?] at h
    simp [Array.getElem?_eq_none (Nat.le_of_not_lt c)] at h
theorem MarksAt.lt {w : World} (h : MarksAt w) : 0 < w.heap.size := cell_ltX ((h 0).trans (marksV_at 0 (by decide)))
theorem MarksAt.below {w w' : World} (h : MarksAt w) (hB : Below w.heap.size w w') : MarksAt w' := cells_keepX hB h.lt h
theorem pre_take (l m : List UInt8) : Lib.hasPrefix l m = (l.take m.length == m) := by
  unfold Lib.hasPrefix
  rw [Bool.eq_iff_iff, List.isPrefixOf_iff_prefix, beq_iff_eq]
  constructor
  · rintro ⟨r, rfl⟩; simp
  · intro h
    refine ⟨l.drop m.length, ?_⟩
    have := List.take_append_drop m.length l
    rw [h] at this
    exact this
/-- the block of the marks -/
def MarksIn (w : World) : Prop := ∃ ty fr, w.heap[0]? = some (.cells marksV ty fr)
theorem MarksIn.below {w w' : World} (h : MarksIn w) (hB : Below w.heap.size w w') : MarksIn w' := by
  obtain ⟨ty, fr, h⟩ := h
  exact ⟨ty, fr, row_keepX h hB⟩
theorem mkT : ∃ d, Tryd.prog.underlying 62 = some d ∧ (match d with | .struct _ | .array _ _ => true | _ => false) = true := by
  have h : (Tryd.prog.underlying 62).map (fun d => match d with | .struct _ | .array _ _ => true | _ => false) = some true := by kernel_rfl
  cases hu : Tryd.prog.underlying 62 with
  | none => rw [hu] at h; cases h
  | some d => rw [hu] at h; injection h with h; exact ⟨d, rfl, h⟩
theorem mkSz : (Tryd.prog.info? 62).map (·.size) = some 29 := by kernel_rfl
theorem mkU : Tryd.prog.underlying 62 = some (.array 29 9) := by kernel_rfl
theorem idx_at (cs : Array Value) (k : Nat) (h : k < 29) (v : Value) (hv : cs[k]? = some v) (w : World) : (Instr.index 62 (.agg cs) (.int .i64 (k : Int))).run Tryd.prog w = .ok v w := by
  have h1 : (0 : Int) ≤ (k : Int) := by omega
  have h2 : (k : Int) < 29 := by omega
  simp [Instr.index, asIntOf, run_underlying mkU, h1, h2, h]
  exact run_part_plain w (by kernel_rfl) hv
theorem find_step (P : List UInt8 → Bool) (k : Nat) (h : k < 29) (hp : P (marks[k]'h) = false) : (marks.drop (k + 1)).find? P = (marks.drop k).find? P := by
  rw [List.drop_eq_getElem_cons (i := k) (show k < marks.length from h), List.find?_cons_of_neg]
  show ¬ P (marks[k]'h) = true
  rw [hp]; decide
theorem find_hit (P : List UInt8 → Bool) (k : Nat) (h : k < 29) (hp : P (marks[k]'h) = true) : (marks.drop k).find? P = some (marks[k]'h) := by
  rw [List.drop_eq_getElem_cons (i := k) (show k < marks.length from h), List.find?_cons_of_pos]
  · rfl
  · exact hp
theorem marks_len (k : Nat) (h : k < 29) : (marks[k]'h).length ≤ 2 := by
  have all : ∀ m ∈ marks, m.length ≤ 2 := by decide
  exact all _ (List.getElem_mem _)
set_option maxRecDepth 100000 in
set_option maxHeartbeats 1000000 in
theorem mark_c (s : ByteArray) (hs : s.size ≤ 1000000) (w : World) (hm : MarksIn w) : Calls Tryd.prog 25 #[.string s] w fun e w' => e = .returned (pv (markP s.data.toList)) ∧ Below w.heap.size w w' := by
  have hB1 : Below w.heap.size w (w.alloc (.cells #[.int .i64 0, .int .i64 0, .string ⟨#[]⟩, .int .i64 0, .int .u64 0, .int .i64 0, .int .i64 0] 45)) := (Below.refl _ w).alloc (Nat.le_refl _) _
  obtain ⟨ty, fr, hg⟩ := hm.below hB1
  obtain ⟨d, hu, hd⟩ := mkT
  have hsz : (Tryd.prog.info? 62).map (·.size) = some marksV.size := mkSz
  have HG := hid hg
  clear hm hB1 hg
  obtain ⟨F, hF⟩ : ∃ F, marks.find? (fun m => s.data.toList.take m.length == m) = F := ⟨_, rfl⟩
  have HF := hid hF
  obtain ⟨R, hR⟩ : ∃ R, markP s.data.toList = R := ⟨_, rfl⟩
  have RM := hid (show (∀ M, F = some M → R = okPc ⟨3, bytesOf M, 0, 0⟩ M.length) ∧ (F = none → R = noPc) from ⟨fun M h => by rw [← hR]; unfold markP; rw [hF, h], fun h => by rw [← hR]; unfold markP; rw [hF, h]⟩)
  rw [hR]
  clear hF hR
  go_enter Tryd.func25, Tryd.ntmps25
  go_upto_region 1 with fail
  refine wp_region_lit ?_
  refine wpList_load_row rfl 62 (.global 0) rfl 0 rfl _ marksV fr d HG.out hu (by cases d <;> first | rfl | exact hd) hsz ?_
  clear HG hu hd hsz
  (try simp only [Act.put, List.getElem_toArray, List.getElem_cons_zero, List.getElem_cons_succ, List.setIfInBounds_toArray, List.set_cons_zero, List.set_cons_succ])
  go_wp2
  go_loop [6] (fun i => ∃ k : Nat, k ≤ 29 ∧ i = .int .i64 k ∧ (marks.drop k).find? (fun m => s.data.toList.take m.length == m) = F) (fun i => 29 - (intOf i).toNat)
  case atStart => exact ⟨0, by decide, rfl, HF.out⟩
  case round =>
    obtain ⟨k, hk, rfl, hf⟩ := hrel
    clear HF
    by_cases hlt : k < 29
    · have k1 : (k : Int) < 29 := by omega
      have mv := marksV_at k hlt
      have ml := marks_len k hlt
      have cp := fun w => hasPrefix_c s (bytesOf (marks[k]'hlt)) w
      have eb : (bytesOf (marks[k]'hlt)).data.toList = marks[k]'hlt := by simp [bytesOf]
      have ez : (bytesOf (marks[k]'hlt)).size = (marks[k]'hlt).length := rfl
      rw [eb, pre_take] at cp
      have fs := find_step (fun m => s.data.toList.take m.length == m) k hlt
      have fh := find_hit (fun m => s.data.toList.take m.length == m) k hlt
      obtain ⟨b, hb⟩ : ∃ b, (s.data.toList.take (marks[k]'hlt).length == marks[k]'hlt) = b := ⟨_, rfl⟩
      rw [hb] at cp
      generalize marks[k]'hlt = M at *
      obtain ⟨T, hT⟩ : ∃ T, bytesOf M = T := ⟨_, rfl⟩
      rw [hT] at cp mv ez
      have ix := fun w => idx_at marksV k hlt _ mv w
      clear mv
      have T2 := hid (And.intro hT ez)
      cases b with
      | true =>
        have eF := hid ((fh hb).symm.trans hf)
        clear fs fh hb hf hT ez eb
        go_wp2_with (go_at_call 38; (with_reducible refine (cp _).mono ?_); rintro e w' ⟨rfl, rfl⟩)
        have eR := RM.out.1 _ eF.out.symm
        rw [eR]
        refine bodyPost_ret (pc_ret rfl _ _ w.heap.size _ _ _ _ _ _ _ (0, 0) rfl (World.alloc_heap_new w _)) rfl ?_
        refine ⟨?_, (Below.refl _ _).alloc (Nat.le_refl _) _⟩
        obtain ⟨q1, q2⟩ := T2.out
        subst q1
        rfl
      | false =>
        have eF := hid ((fs hb).trans hf)
        clear fs fh hb hf hT ez eb ml
        go_wp2_with (go_at_call 38; (with_reducible refine (cp _).mono ?_); rintro e w' ⟨rfl, rfl⟩)
        go_round
        case rel => exact ⟨k + 1, hlt, by go_num, eF.out⟩
        case measure => simp [intOf]; omega
    · have k1 : ¬ (k : Int) < 29 := by omega
      have eF := hid hf
      have ek : k = 29 := by omega
      clear hf
      subst ek
      go_wp2
      have e0 : F = none := eF.out.symm
      rw [RM.out.2 e0]
      refine bodyPost_ret (pc_ret rfl _ _ w.heap.size _ _ _ _ _ _ _ (0, 0) rfl (World.alloc_heap_new w _)) rfl ?_
      exact ⟨rfl, (Below.refl _ w).alloc (Nat.le_refl _) _⟩
end Go.Proofs.YtdoojooepkdlhaaDoor.W
