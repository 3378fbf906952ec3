/- Package lex: tokens in plain words; the readers; Tokens. -/
import Derived.Test.YtdoojooepkdlhaaDoorX1j
import Derived.Laws.EntriesVeiled
namespace Go.Proofs.YtdoojooepkdlhaaDoor.W
open Go.ChangeShapes Go.WideShapes Go.RowKit Go.Shelf
set_option linter.unusedVariables false
/-- a token with its place, and a fault: what is told each time -/
def yv (t : Tk) (a c fa : Int) : Array Value := #[tv t a, .agg #[.int .i64 c, .int .i64 fa]]
def endTk : Tk := ⟨7, ⟨#[]⟩, 0, 0⟩
/-- what is told from a place on -/
def toksP : Nat → List UInt8 → Nat → List (Array Value)
  | 0, _, _ => []
  | f + 1, l, a => if l.length ≤ a then [yv endTk a 0 0] else
    if (pieceP (l.drop a)).size = 0 then [yv noTk 0 60 a] else
    if (pieceP (l.drop a)).code ≠ 0 then [yv noTk 0 (pieceP (l.drop a)).code a] else
    if (pieceP (l.drop a)).t.kind ≠ 0 then yv (pieceP (l.drop a)).t a 0 0 :: toksP f l (a + (pieceP (l.drop a)).size) else toksP f l (a + (pieceP (l.drop a)).size)
def valsP (l : List UInt8) : List (Array Value) := if 65536 < l.length then [yv noTk 0 2 0] else toksP (l.length + 1) l 0
section
variable {f a : Nat} {l : List UInt8} {p : Pc}
theorem toks_end (h : l.length ≤ a) : toksP (f + 1) l a = [yv endTk a 0 0] := by unfold toksP; exact if_pos h
theorem toks_none (h : ¬ l.length ≤ a) (hp : pieceP (l.drop a) = p) (h1 : p.size = 0) : toksP (f + 1) l a = [yv noTk 0 60 a] := by
  unfold toksP; rw [if_neg h, hp, if_pos h1]
theorem toks_bad (h : ¬ l.length ≤ a) (hp : pieceP (l.drop a) = p) (h1 : ¬ p.size = 0) (h2 : ¬ p.code = 0) : toksP (f + 1) l a = [yv noTk 0 p.code a] := by
  unfold toksP; rw [if_neg h, hp, if_neg h1, if_pos h2]
theorem toks_tok (h : ¬ l.length ≤ a) (hp : pieceP (l.drop a) = p) (h1 : ¬ p.size = 0) (h2 : p.code = 0) (h3 : ¬ p.t.kind = 0) : toksP (f + 1) l a = yv p.t a 0 0 :: toksP f l (a + p.size) := by
  conv => lhs; unfold toksP
  rw [if_neg h, hp, if_neg h1, if_neg (by rw [h2]; decide), if_pos h3]
theorem toks_gap (h : ¬ l.length ≤ a) (hp : pieceP (l.drop a) = p) (h1 : ¬ p.size = 0) (h2 : p.code = 0) (h3 : p.t.kind = 0) : toksP (f + 1) l a = toksP f l (a + p.size) := by
  conv => lhs; unfold toksP
  rw [if_neg h, hp, if_neg h1, if_neg (by rw [h2]; decide), if_neg (by rw [h3]; decide)]
end
theorem piece_at (l : List UInt8) : (¬ (gapP l).size = 0 → pieceP l = gapP l) ∧ ((gapP l).size = 0 → (¬ (nameP l).size = 0 → pieceP l = nameP l) ∧ ((nameP l).size = 0 → (¬ (doubleP l).size = 0 → pieceP l = doubleP l) ∧ ((doubleP l).size = 0 → (¬ (wholeP l).size = 0 → pieceP l = wholeP l) ∧ ((wholeP l).size = 0 → (¬ (quotedP l).size = 0 → pieceP l = quotedP l) ∧ ((quotedP l).size = 0 → pieceP l = markP l))))) := by
  unfold pieceP orPc
  refine ⟨fun h => if_neg h, fun h0 => ⟨fun h => ?_, fun h1 => ⟨fun h => ?_, fun h2 => ⟨fun h => ?_, fun h3 => ⟨fun h => ?_, fun h4 => ?_⟩⟩⟩⟩⟩
  · rw [if_pos h0, if_neg h]
  · rw [if_pos h0, if_pos h1, if_neg h]
  · rw [if_pos h0, if_pos h1, if_pos h2, if_neg h]
  · rw [if_pos h0, if_pos h1, if_pos h2, if_pos h3, if_neg h]
  · rw [if_pos h0, if_pos h1, if_pos h2, if_pos h3, if_pos h4]
theorem rdT : ∃ d, Tryd.prog.underlying 42 = some d ∧ (match d with | .struct _ | .array _ _ => true | _ => false) = true := by
  have h : (Tryd.prog.underlying 42).map (fun d => match d with | .struct _ | .array _ _ => true | _ => false) = some true := by kernel_rfl
  cases hu : Tryd.prog.underlying 42 with
  | none => rw [hu] at h; cases h
  | some d => rw [hu] at h; injection h with h; exact ⟨d, rfl, h⟩
theorem rdSz : (Tryd.prog.info? 42).map (·.size) = some 6 := by kernel_rfl
theorem rd_ret {fn : Func} {p : Tmp} (h : fn.results = #[.cell p 42]) (tmps : Array Value) (w : World) (gb : Nat) (v0 v1 v2 v3 v4 v5 : Value) (fr : Nat × Nat) (hp : tmps.getD p undef = .pointer (some ⟨gb, 0, none⟩)) (hg : w.heap[gb]? = some (.cells #[v0, v1, v2, v3, v4, v5] 42 fr)) : (results fn tmps).run Tryd.prog w = .ok (.agg #[v0, v1, v2, v3, v4, v5]) w := by
  obtain ⟨d, hu, hd⟩ := rdT
  exact results_cell_row h tmps w gb _ _ fr d hp hg hu (by cases d <;> first | rfl | exact hd) (by rw [rdSz]; rfl)
theorem readers_c (w : World) : Calls Tryd.prog 12 #[] w fun e w' => e = .returned (.agg #[.func (.func 20) #[] #[], .func (.func 21) #[] #[], .func (.func 22) #[] #[], .func (.func 23) #[] #[], .func (.func 24) #[] #[], .func (.func 25) #[] #[]]) ∧ Below w.heap.size w w' := by
  go_enter Tryd.func12, Tryd.ntmps12
  go_wp2
  refine bodyPost_ret (rd_ret rfl _ _ w.heap.size _ _ _ _ _ _ (0, 0) rfl (World.alloc_heap_new w _)) rfl ?_
  exact ⟨rfl, (Below.refl _ w).alloc (Nat.le_refl _) _⟩
theorem tokens_c (s : ByteArray) (w : World) : Calls Tryd.prog 6 #[.string s] w fun e w' => e = .returned (.func (.func 11) #[] #[.pointer (some ⟨w.heap.size, 0, none⟩)]) ∧ w' = w.alloc (.cells #[.string s] 9) := by
  go_enter Tryd.func6, Tryd.ntmps6
  go_wp2
  go_ret
  exact ⟨rfl, rfl⟩
end Go.Proofs.YtdoojooepkdlhaaDoor.W
