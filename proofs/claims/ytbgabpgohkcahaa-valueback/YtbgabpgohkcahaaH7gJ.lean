import Derived.Test.YtbgabpgohkcahaaH7fJ
import Derived.Test.YtbgabpgohkcahaaBase5
/- Package heap: a range over pieces; bytes of a cell, piece by piece. -/
namespace Go.Proofs.Ytbgabpgohkcahaa.W
open Go.ChangeShapes Go.WideShapes Go.RowKit Go.Shelf
set_option linter.unusedVariables false
theorem eg_pieces : ∀ args w, (callFunc 96 args).run Try.prog w = .ok (.enter 96 args) w := enters_of Try.func96 (by kernel_rfl) rfl
/-- the frame in which a round's body begins -/
def pAct (p1 p2 q1 q2 : Nat) (a : Act) (x y : Nat) : Act := { tmps := (((a.tmps.setIfInBounds p1 (.int .i64 (x : Int))).setIfInBounds p2 (.int .i64 (y : Int))).setIfInBounds q1 (.int .i64 (x : Int))).setIfInBounds q2 (.int .i64 (y : Int)), defers := [] }
theorem zip_two (t : Array Value) (p1 p2 : Nat) (v1 v2 : Value) : ((#[p1, p2] : Array Tmp).zip #[v1, v2]).foldl (fun t (p, v) => t.setIfInBounds p v) t = (t.setIfInBounds p1 v1).setIfInBounds p2 v2 := by
  simp
theorem pieces_law {g : Operand} {p1 p2 : Nat} {assign body : Code} {Q : Exit → Act → World → Prop} {a : Act} {W0 : World} {Bn : Nat} (nn : Nat) (hnn : nn ≤ 8388608) (hg : a.eval g = .func (.func 96) #[] #[.pointer (some ⟨Bn, 0, none⟩)])
    (I : Nat → World → Prop) (hL : ∀ i W, I i W → W.cell? ⟨Bn, 0, none⟩ = some (.int .i64 nn))
    (hI : ∀ i W W', I i W → Upd (fun k => k = W0.heap.size + 1) W W' → I i W') (h0 : I 0 W0) (q1 q2 : Nat)
    (hassign : ∀ (L x y : Nat) (W : World) (K : Act → World → Prop), K (pAct p1 p2 q1 q2 a x y) W → assign.wpIn (Fence.wide.inRound L) 7 Try.prog (Exit.then K (fun _ _ _ => False)) { tmps := (a.tmps.setIfInBounds p1 (.int .i64 (x : Int))).setIfInBounds p2 (.int .i64 (y : Int)), defers := [] } W)
    (hbody : ∀ (L : Nat) i (hi : i < pieceN nn) W, L = W0.heap.size + 1 → I i W → W0.heap.size + 2 ≤ W.heap.size → (∃ r, W.heap[L]? = some (.loop r)) → body.wpIn (Fence.wide.inRound L) 7 Try.prog (rndWay L W0.heap.size W (I (i + 1)) (fun _ _ => False)) (pAct p1 p2 q1 q2 a (pieceO nn i) (pieceW nn i)) W)
    (hdone : ∀ W, I (pieceN nn) W → W.heap[W0.heap.size]? = some (.deferred (some [])) → Q .normal { a with defers := { target := .collected W0.heap.size, args := #[] } :: a.defers } W) :
    (Code.rangeFunc g #[p1, p2] assign body).wp Try.prog Q a W0 := by
  have hlen : (piecesV nn).length = pieceN nn := by unfold piecesV; rw [List.length_map, List.length_range]
  have hget : ∀ i (hi : i < (piecesV nn).length), (piecesV nn)[i] = #[.int .i64 (pieceO nn i : Nat), .int .i64 (pieceW nn i : Nat)] := by
    intro i hi
    simp [piecesV]
  refine iter_law (pieces_iter Bn nn hnn) eg_pieces hg I (fun _ _ => False) hL hI (fun c W W' h _ => h) h0 (fun i => pAct p1 p2 q1 q2 a (pieceO nn i) (pieceW nn i)) ?_ ?_ ?_ ?_ (fun c W h => h.elim)
  · intro i hi; rw [hget i hi]; rfl
  · intro L i hi W K hK
    rw [hget i hi, zip_two]
    exact hassign L _ _ W K hK
  · intro L i hi W hLe hIi hs hr
    exact hbody L i (by rw [← hlen]; exact hi) W hLe hIi hs hr
  · intro W hW hD
    rw [hlen] at hW
    exact hdone W hW hD
theorem byte_leN (l : List Nat) (h : ∀ x ∈ l, x < 256) (j : Nat) (hj : j < l.length) : leN l / 256 ^ j % 256 = l[j] := by
  induction l generalizing j with
  | nil => simp at hj
  | cons a l ih =>
    have ha := h a (by simp)
    cases j with
    | zero => simp [leN]; omega
    | succ j =>
      have := ih (fun x hx => h x (List.mem_cons_of_mem _ hx)) j (by simpa using hj)
      have e : leN (a :: l) / 256 ^ (j + 1) = leN l / 256 ^ j := by
        rw [show 256 ^ (j + 1) = 256 * 256 ^ j by rw [Nat.pow_succ, Nat.mul_comm], ← Nat.div_div_eq_div_mul]
        congr 1
        simp [leN]; omega
      rw [e, this]; rfl
theorem saved_upTo (bs : List Nat) (h : ∀ x ∈ bs, x < 256) (o w : Nat) (ho : o + w ≤ bs.length) : saved (upTo bs o) o (leN (seg bs o w)) w = upTo bs (o + w) := by
  have hl := upTo_len bs o (by omega)
  have hs := seg_len bs o w ho
  apply List.ext_getElem?
  intro j
  rw [saved_get _ _ _ _ _ (by omega)]
  by_cases c : o ≤ j ∧ j < o + w
  · rw [if_pos c]
    have hj : j - o < (seg bs o w).length := by omega
    rw [byte_leN (seg bs o w) (fun x hx => h x (List.mem_of_mem_drop (List.mem_of_mem_take hx))) (j - o) hj]
    have e : (seg bs o w)[j - o]? = bs[j]? := by rw [seg_get _ _ _ _ (by omega), show o + (j - o) = j by omega]
    rw [List.getElem?_eq_getElem hj] at e
    rw [e]
    unfold upTo
    rw [List.getElem?_append_left (by rw [List.length_take]; omega), List.getElem?_take_of_lt (by omega)]
  · rw [if_neg c]
    unfold upTo
    by_cases d : j < o
    · rw [List.getElem?_append_left (by rw [List.length_take]; omega), List.getElem?_append_left (by rw [List.length_take]; omega), List.getElem?_take_of_lt (by omega), List.getElem?_take_of_lt (by omega)]
    · rw [List.getElem?_append_right (by rw [List.length_take]; omega), List.getElem?_append_right (by rw [List.length_take]; omega), List.length_take, List.length_take, List.getElem?_replicate, List.getElem?_replicate]
      by_cases f : j < bs.length
      · rw [if_pos (by omega), if_pos (by omega)]
      · rw [if_neg (by omega), if_neg (by omega)]
/-- bytes that can be read -/
def ByteRow (W : World) (o : Option Addr) (bs : List Nat) : Prop := bs = [] ∨ ∃ g p, o = some ⟨g, p, none⟩ ∧ ∀ i (hi : i < bs.length), W.cell? ⟨g, p + i, none⟩ = some (.int .u8 (bs[i] : Nat))
theorem byteRow_upd {S : Nat → Prop} {W W' : World} {o : Option Addr} {bs : List Nat} (h : ByteRow W o bs) (hu : Upd S W W') (ho : ∀ x, o = some x → ¬ S x.block) : ByteRow W' o bs := by
  rcases h with h | ⟨g, p, rfl, hc⟩
  · exact .inl h
  · exact .inr ⟨g, p, rfl, fun i hi => upd_cell hu (hc i hi) (show ¬ S g from ho ⟨g, p, none⟩ rfl)⟩
end Go.Proofs.Ytbgabpgohkcahaa.W
