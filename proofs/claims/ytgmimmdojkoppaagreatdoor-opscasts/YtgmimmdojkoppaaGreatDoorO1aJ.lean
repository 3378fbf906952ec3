import Derived.Test.YtgmimmdojkoppaaGreatDoorBase11
import Derived.Maps.OwnOps
import Derived.Below
/- A map with strings for keys, as a list: what is put in and what is looked up. -/
namespace Go.Proofs.YtgmimmdojkoppaaGreatDoor.W
open Go.ChangeShapes Go.WideShapes Go.RowKit Go.ChangeMaps
set_option linter.unusedVariables false
/-- a map with strings for keys, in the order in which they came -/
def MapL (w : World) (b : Nat) (l : List (ByteArray × Value)) : Prop := ∃ es clock, w.heap[b]? = some (.map es clock) ∧ es.toList.map (fun e => (e.key, e.val)) = l.map (fun p => (Value.string p.1, p.2))
def findL : List (ByteArray × Value) → ByteArray → Option Value
  | [], _ => none
  | p :: l, s => if (s == p.1) = true then some p.2 else findL l s
theorem findNow_l (s : ByteArray) : ∀ (es : List MapEntry) (l : List (ByteArray × Value)) (i : Nat), es.map (fun e => (e.key, e.val)) = l.map (fun p => (Value.string p.1, p.2)) →
    (findL l s = none → Instr.findNow .string (.string s) es i = some none) ∧ (∀ v, findL l s = some v → ∃ j, Instr.findNow .string (.string s) es i = some (some (j, v)))
  | [], [], i, _ => ⟨fun _ => rfl, fun v h => by cases h⟩
  | [], _ :: _, i, h => by simp at h
  | _ :: _, [], i, h => by simp at h
  | e :: es, p :: l, i, h => by
    simp only [List.map_cons, List.cons.injEq, Prod.mk.injEq] at h
    obtain ⟨⟨hk, hv⟩, ht⟩ := h
    have ih := findNow_l s es l (i + 1) ht
    unfold findL Instr.findNow
    rw [hk]
    by_cases c : (s == p.1) = true
    · rw [if_pos c]
      refine ⟨fun h => (by cases h), fun v h => ⟨i, ?_⟩⟩
      cases h
      simp only [Instr.sameNow, c]
      rw [hv]
    · rw [if_neg c]
      have c' : (s == p.1) = false := by simpa using c
      simp only [Instr.sameNow, c']
      exact ih
theorem cell_keep {w w' : World} (hB : Below w.heap.size w w') {p : Addr} {v : Value} (h : w.cell? p = some v) : w'.cell? p = some v := by
  rw [hB.cell (p := p) ?_]
  · exact h
  · by_cases c : p.block < w.heap.size
    · exact c
    · simp [World.cell?, Array.getElem?_eq_none (Nat.not_lt.1 c)] at h
section
variable {P : Program} {w : World} {t k e : TypeId} {b : Nat} {l : List (ByteArray × Value)}
theorem MapL.below {w' : World} (h : MapL w b l) (hB : Below w.heap.size w w') : MapL w' b l := by
  obtain ⟨es, clock, h1, h2⟩ := h
  exact ⟨es, clock, (hB.block b (Array.getElem?_eq_some_iff.1 h1).1).trans h1, h2⟩
theorem MapL.lt (h : MapL w b l) : b < w.heap.size := by
  obtain ⟨es, clock, h1, h2⟩ := h
  exact (Array.getElem?_eq_some_iff.1 h1).1
theorem mapL_new (w : World) : MapL (w.alloc (.map #[] 0)) w.heap.size [] := ⟨#[], 0, (MapKept.heap_alloc w _).1, rfl⟩
theorem run_insert_l (ht : P.underlying t = some (.map k e)) (hk : P.underlying k = some .string) (h : MapL w b l) (s : ByteArray) (v : Value) (hn : findL l s = none) :
    ∃ w', (Instr.mapUpdate t (.map (some b)) (.string s) v).run P w = .ok () w' ∧ MapL w' b (l ++ [(s, v)]) ∧ w.grownBy w' (some b) := by
  obtain ⟨es, clock, hb, h2⟩ := h
  have h1 := (findNow_l s es.toList l 0 h2).1 hn
  have hc : (Instr.checkKey false 10000 k (.string s)).run P w = .ok () w := MapKept.run_checkKey (k := .string s) hk (by simp [MapKept.IsKey]) false 9999
  refine ⟨setBlock w b (.map (es.push ⟨.string s, v, clock⟩) (clock + 1)), ?_, ⟨_, _, heap_setBlock_same hb _, ?_⟩, ⟨rfl, rfl, rfl, by simp [setBlock], fun i _ hi => heap_setBlock_other hb _ (fun e => hi (by rw [e]))⟩⟩
  · simp [Instr.mapUpdate, run_underlying ht, MapKept.run_getObj_map hb, hc, MapKept.run_findKey hk h1, MapKept.run_setObj_map _ hb, Result.andThen, setBlock]
  · rw [Array.toList_push, List.map_append, List.map_append, h2]
    rfl
theorem run_lookup_l (ht : P.underlying t = some (.map k e)) (hk : P.underlying k = some .string) (h : MapL w b l) (s : ByteArray) (v : Value) (hv : findL l s = some v) :
    (Instr.lookup t (.map (some b)) (.string s) true).run P w = .ok (.tuple #[v, .bool true]) w := by
  obtain ⟨es, clock, hb, h2⟩ := h
  obtain ⟨j, h1⟩ := (findNow_l s es.toList l 0 h2).2 v hv
  have hc : (Instr.checkKey es.isEmpty 10000 k (.string s)).run P w = .ok () w := MapKept.run_checkKey (k := .string s) hk (by simp [MapKept.IsKey]) _ 9999
  simp [Instr.lookup, run_underlying ht, MapKept.run_getObj_map hb, hc, MapKept.run_findKey hk h1, Result.andThen]
theorem run_lookup_none (ht : P.underlying t = some (.map k e)) (hk : P.underlying k = some .string) (h : MapL w b l) (s : ByteArray) (z : Value) (hz : (zeroValue e).run P w = .ok z w) (hv : findL l s = none) :
    (Instr.lookup t (.map (some b)) (.string s) true).run P w = .ok (.tuple #[z, .bool false]) w := by
  obtain ⟨es, clock, hb, h2⟩ := h
  have h1 := (findNow_l s es.toList l 0 h2).1 hv
  have hc : (Instr.checkKey es.isEmpty 10000 k (.string s)).run P w = .ok () w := MapKept.run_checkKey (k := .string s) hk (by simp [MapKept.IsKey]) _ 9999
  simp [Instr.lookup, run_underlying ht, MapKept.run_getObj_map hb, hc, MapKept.run_findKey hk h1, hz, Result.andThen]
/-- a pair is put in, at the operation -/
theorem wpList_insert_l {ops : Array Oper} {rest : List Oper} {o : Oper} {a : Act} {Q : Exit → Act → World → Prop}
    (hg : o.guard = none) (m x v : Operand) (t : TypeId) (hop : o.op = Op.insert t m x v) (k e : TypeId) (ht : P.underlying t = some (.map k e)) (hk : P.underlying k = some .string)
    (b : Nat) (hm : a.eval m = .map (some b)) (h : MapL w b l) (s : ByteArray) (val : Value) (hx : a.eval x = .string s) (hv : a.eval v = val) (hn : findL l s = none)
    (hK : ∀ w', MapL w' b (l ++ [(s, val)]) → w.grownBy w' (some b) → wpList P ops Q rest (a.put o.dst undef) w') :
    wpList P ops Q (o :: rest) a w := by
  refine wpList_plain hg fun K' hK' => ?_
  obtain ⟨w', hrun, r1, r2⟩ := run_insert_l ht hk h s val hn
  unfold Oper.wp
  simp [execOp, hop, hm, hx, hv, hrun, Result.andThen]
  exact hK' _ _ (hK w' r1 r2)
end
end Go.Proofs.YtgmimmdojkoppaaGreatDoor.W
