import Derived.Test.YtgmimmdojkoppaaGreatDoorBase14
import Derived.Test.YtgmimmdojkoppaaGreatDoorBase13
/- Package heap: plain, isValue, areValues, of right cells. -/
namespace Go.Proofs.YtgmimmdojkoppaaGreatDoor.W
open Go.ChangeShapes Go.WideShapes Go.RowKit Go.Shelf
set_option linter.unusedVariables false
theorem plain_num (i : Int) (ob ow : Option Addr) (bc wc : Nat) (W : World) :
    Calls Tryz.prog 169 #[cellV 2 false i ByteArray.empty (.slice ob 0 bc) (.slice ow 0 wc) 0 0 0] W fun e w' => e = .returned (.bool true) ∧ Below W.heap.size W w' := by
  have cs : ∀ w, Calls Tryz.prog 170 #[.int .i64 2, .bool false] w fun e w' => e = .returned (.int .i64 1) ∧ w' = w := fun w => shape_c 2 false w
  unfold cellV
  go_enter Tryz.func169, Tryz.ntmps169
  go_wp2_with (go_at_call 170; (with_reducible refine (cs _).mono ?_); rintro e w' ⟨rfl, hw⟩; (have hw' := hw.symm); subst hw'; clear hw)
  go_ret
  exact ⟨rfl, (Below.refl _ W).alloc (Nat.le_refl _) _⟩
theorem plain_text (t : ByteArray) (ob ow : Option Addr) (bc wc : Nat) (W : World) :
    Calls Tryz.prog 169 #[cellV 4 false 0 t (.slice ob 0 bc) (.slice ow 0 wc) 0 0 0] W fun e w' => e = .returned (.bool true) ∧ Below W.heap.size W w' := by
  have cs : ∀ w, Calls Tryz.prog 170 #[.int .i64 4, .bool false] w fun e w' => e = .returned (.int .i64 2) ∧ w' = w := fun w => shape_c 4 false w
  unfold cellV
  go_enter Tryz.func169, Tryz.ntmps169
  go_wp2_with (go_at_call 170; (with_reducible refine (cs _).mono ?_); rintro e w' ⟨rfl, hw⟩; (have hw' := hw.symm); subst hw'; clear hw)
  go_ret
  exact ⟨rfl, (Below.refl _ W).alloc (Nat.le_refl _) _⟩
theorem words_below {W W' : World} {v : Value} {ws : List Nat} (h : WordsAt W v ws) (hb' : Below W.heap.size W W') : WordsAt W' v ws := by
  obtain ⟨o, cap, rfl, h1, h2, h3⟩ := h
  refine ⟨o, cap, rfl, h1, h2, fun i hi => ?_⟩
  obtain ⟨x, hx, hc⟩ := h3 i hi
  exact ⟨x, hx, below_cell hb' hc⟩
section
variable {W : World} {hb sb : Nat} {vc : Value} {T : Nat → Prop} {H : List (Option Hc)} {u h : Nat}
theorem right_num (g : HLay W hb sb vc T H u h) (i : Int) (ob ow : Option Addr) (bc wc : Nat)  : Calls Tryz.prog 127 #[.agg #[.int .i64 2, .bool false, .int .i64 i, .string ByteArray.empty, .slice ob 0 bc, .slice ow 0 wc, .int .u64 0, .int .i64 0, .int .i64 0], (.func (.func 128) #[.pointer (some ⟨hb, 0, none⟩)] #[])] W fun e w' => e = .returned (.bool true) ∧ Below W.heap.size W w' := by
  have cp := plain_num i ob ow bc wc
  have cs : ∀ w, Calls Tryz.prog 170 #[.int .i64 2, .bool false] w fun e w' => e = .returned (.int .i64 1) ∧ w' = w := fun w => shape_c 2 false w
  unfold cellV at cp
  have hB := (show Below W.heap.size W (W.alloc (.cells #[.int .i64 2, .bool false, .int .i64 i, .string ByteArray.empty, .slice ob 0 bc, .slice ow 0 wc, .int .u64 0, .int .i64 0, .int .i64 0] 99)) from (Below.refl _ W).alloc (Nat.le_refl _) _)
  have n0 := World.cell?_alloc_new W #[.int .i64 2, .bool false, .int .i64 i, .string ByteArray.empty, .slice ob 0 bc, .slice ow 0 wc, .int .u64 0, .int .i64 0, .int .i64 0] 99 0
  have n1 := World.cell?_alloc_new W #[.int .i64 2, .bool false, .int .i64 i, .string ByteArray.empty, .slice ob 0 bc, .slice ow 0 wc, .int .u64 0, .int .i64 0, .int .i64 0] 99 1
  simp only [List.getElem?_toArray, List.getElem?_cons_succ, List.getElem?_cons_zero] at n0 n1
  have HB := hid hB
  go_enter Tryz.func127, Tryz.ntmps127
  go_wp2_with (first | (go_at_call 169; (with_reducible refine (cp _).mono ?_); rintro e w2 ⟨rfl, hB2⟩; (have z0 := below_cell hB2 n0); (have z1 := below_cell hB2 n1); (have HB2 := hid hB2); clear hB2) | (go_at_call 170; (with_reducible refine (cs _).mono ?_); rintro e w' ⟨rfl, hw⟩; (have hw' := hw.symm); subst hw'; clear hw))
  go_ret
  exact ⟨rfl, HB.out.trans (HB2.out.mono HB.out.size)⟩
end
end Go.Proofs.YtgmimmdojkoppaaGreatDoor.W
/- Package heap: cells that are handed over; a cell of noughts; rows whose words are written. -/
namespace Go.Proofs.YtgmimmdojkoppaaGreatDoor.W
open Go.ChangeShapes Go.WideShapes Go.RowKit Go.Shelf
set_option linter.unusedVariables false
/-- a row of which i words are written -/
def upTo (ws : List Nat) (i : Nat) : List Nat := ws.take i ++ List.replicate (ws.length - i) 0
theorem upTo_len (ws : List Nat) (i : Nat) (h : i ≤ ws.length) : (upTo ws i).length = ws.length := by
  unfold upTo; rw [List.length_append, List.length_take, List.length_replicate]; omega
theorem upTo_zero (ws : List Nat) : upTo ws 0 = List.replicate ws.length 0 := by unfold upTo; simp
theorem upTo_all (ws : List Nat) : upTo ws ws.length = ws := by unfold upTo; simp
theorem upTo_set (ws : List Nat) (i : Nat) (h : i < ws.length) : (upTo ws i).set i ws[i] = upTo ws (i + 1) := by
  apply List.ext_getElem?
  intro j
  unfold upTo
  by_cases e : j = i
  · subst e
    rw [List.getElem?_set_self (by rw [List.length_append, List.length_take, List.length_replicate]; omega), List.getElem?_append_left (by rw [List.length_take]; omega), List.getElem?_take_of_lt (by omega), List.getElem?_eq_getElem h]
  · rw [List.getElem?_set_ne (Ne.symm e)]
    by_cases c : j < i
    · rw [List.getElem?_append_left (by rw [List.length_take]; omega), List.getElem?_append_left (by rw [List.length_take]; omega), List.getElem?_take_of_lt (by omega), List.getElem?_take_of_lt (by omega)]
    · rw [List.getElem?_append_right (by rw [List.length_take]; omega), List.getElem?_append_right (by rw [List.length_take]; omega), List.length_take, List.length_take, List.getElem?_replicate, List.getElem?_replicate]
      by_cases d : j < ws.length
      · rw [if_pos (by omega), if_pos (by omega)]
      · rw [if_neg (by omega), if_neg (by omega)]
theorem upTo_lt (ws : List Nat) (i n : Nat) (h : ∀ w ∈ ws, w < n) (hn : 0 < n) : ∀ w ∈ upTo ws i, w < n := by
  intro w hw
  unfold upTo at hw
  rcases List.mem_append.1 hw with e | e
  · exact h w (List.mem_of_mem_take e)
  · rw [(List.mem_replicate.1 e).2]; exact hn
/-- a cell of noughts -/
def Hc.zero : Hc → Hc
  | .num _ => .num 0
  | .text b => .text (List.replicate b.length 0)
  | .buf k b => .buf k (List.replicate b.length 0)
  | .view k b p n => .view k b p n
  | .row ws => .row (List.replicate ws.length 0)
theorem le8_zero : le8 0 = List.replicate 8 0 := by decide
theorem zero_bytes (c : Hc) : c.zero.bytes = List.replicate c.bytes.length 0 := by
  cases c with
  | num i => show le8 _ = List.replicate (le8 _).length 0; rw [le8_len]; exact le8_zero
  | text b => rfl
  | buf k b => rfl
  | view k b p n => rfl
  | row ws =>
    show (List.replicate ws.length 0).flatMap le8 = List.replicate (ws.flatMap le8).length 0
    rw [row_len]
    generalize ws.length = n
    induction n with
    | zero => rfl
    | succ n ih => rw [List.replicate_succ, List.flatMap_cons, ih, le8_zero, List.replicate_append_replicate, show 8 + 8 * n = 8 * (n + 1) by omega]
theorem zero_cl (c : Hc) : c.zero.cl = c.cl := by cases c <;> rfl
theorem zero_ok {c : Hc} (h : c.ok) : c.zero.ok := by
  cases c with
  | num i => exact ⟨by omega, by omega⟩
  | text b => exact ⟨fun x hx => by rw [(List.mem_replicate.1 hx).2]; omega, by rw [List.length_replicate]; exact h.2⟩
  | buf k b => exact ⟨h.1, fun x hx => by rw [(List.mem_replicate.1 hx).2]; omega, by rw [List.length_replicate]; exact h.2.2⟩
  | view k b p n => exact h
  | row ws => exact ⟨fun x hx => by rw [(List.mem_replicate.1 hx).2]; omega, by rw [List.length_replicate]; exact h.2⟩
theorem upd_cell {S : Nat → Prop} {W W' : World} {p : Addr} {v : Value} (hu : Upd S W W') (h : W.cell? p = some v) (hs : ¬ S p.block) : W'.cell? p = some v := by
  rcases Nat.lt_or_ge p.block W.heap.size with c | c
  · rw [World.cell?_of_block (hu.block _ c hs)]; exact h
  · unfold World.cell? at h
    rw [Array.getElem?_eq_none c] at h
    cases h
/-- a slice does not lie in S -/
def OutOf (S : Nat → Prop) (v : Value) : Prop := ∀ o n cap, v = .slice (some o) n cap → ¬ S o.block
theorem words_upd {S : Nat → Prop} {W W' : World} {v : Value} {ws : List Nat} (h : WordsAt W v ws) (hu : Upd S W W') (ho : OutOf S v) : WordsAt W' v ws := by
  obtain ⟨o, cap, rfl, h1, h2, h3⟩ := h
  refine ⟨o, cap, rfl, h1, h2, fun i hi => ?_⟩
  obtain ⟨x, rfl, hc⟩ := h3 i hi
  exact ⟨x, rfl, upd_cell hu hc (by have := ho x _ _ rfl; unfold Addr.add; split <;> exact this)⟩
/-- a slice of bytes that can be read -/
def BytesAt (W : World) (v : Value) (bs : List Nat) : Prop := ∃ o cap, v = .slice o bs.length cap ∧ (∀ b ∈ bs, b < 256) ∧ ∀ i (hi : i < bs.length), ∃ x, o = some x ∧ W.cell? (x.add i) = some (.int .u8 (bs[i] : Nat))
theorem bytes_upd {S : Nat → Prop} {W W' : World} {v : Value} {bs : List Nat} (h : BytesAt W v bs) (hu : Upd S W W') (ho : OutOf S v) : BytesAt W' v bs := by
  obtain ⟨o, cap, rfl, h1, h3⟩ := h
  refine ⟨o, cap, rfl, h1, fun i hi => ?_⟩
  obtain ⟨x, rfl, hc⟩ := h3 i hi
  exact ⟨x, rfl, upd_cell hu hc (by have := ho x _ _ rfl; unfold Addr.add; split <;> exact this)⟩
/-- a cell as it is handed over: v, outside S -/
def CellAt (W : World) (S : Nat → Prop) (v : Value) : Hc → Prop
  | .num i => ∃ ob bc ow wc, v = cellV 2 false i ByteArray.empty (.slice ob 0 bc) (.slice ow 0 wc) 0 0 0
  | .text b => ∃ t ob bc ow wc, v = cellV 4 false 0 t (.slice ob 0 bc) (.slice ow 0 wc) 0 0 0 ∧ b = t.data.toList.map UInt8.toNat
  | .buf k b => ∃ ob bc ow wc, v = cellV k false 0 ByteArray.empty (.slice ob b.length bc) (.slice ow 0 wc) 0 0 0 ∧ BytesAt W (.slice ob b.length bc) b ∧ OutOf S (.slice ob b.length bc)
  | .view k base p n => ∃ ob bc ow wc, v = cellV k true 0 ByteArray.empty (.slice ob 0 bc) (.slice ow 0 wc) base p n
  | .row ws => ∃ ob bc ow wc, v = cellV 9 false 0 ByteArray.empty (.slice ob 0 bc) (.slice ow ws.length wc) 0 0 0 ∧ WordsAt W (.slice ow ws.length wc) ws ∧ OutOf S (.slice ow ws.length wc)
theorem OutOf.mono {S S' : Nat → Prop} {v : Value} (h : OutOf S v) (hs : ∀ k, S' k → S k) : OutOf S' v := fun o n cap e k => h o n cap e (hs _ k)
theorem CellAt.mono {S S' : Nat → Prop} {W : World} {v : Value} {c : Hc} (h : CellAt W S v c) (hs : ∀ k, S' k → S k) : CellAt W S' v c := by
  cases c with
  | num i => exact h
  | text b => exact h
  | view k b p n => exact h
  | buf k b => obtain ⟨ob, bc, ow, wc, h1, h2, h3⟩ := h; exact ⟨ob, bc, ow, wc, h1, h2, h3.mono hs⟩
  | row ws => obtain ⟨ob, bc, ow, wc, h1, h2, h3⟩ := h; exact ⟨ob, bc, ow, wc, h1, h2, h3.mono hs⟩
theorem CellAt.upd {S S' : Nat → Prop} {W W' : World} {v : Value} {c : Hc} (h : CellAt W S v c) (hu : Upd S' W W') (hs : ∀ k, S' k → S k) : CellAt W' S v c := by
  cases c with
  | num i => exact h
  | text b => exact h
  | view k b p n => exact h
  | buf k b => obtain ⟨ob, bc, ow, wc, h1, h2, h3⟩ := h; exact ⟨ob, bc, ow, wc, h1, bytes_upd h2 hu (h3.mono hs), h3⟩
  | row ws => obtain ⟨ob, bc, ow, wc, h1, h2, h3⟩ := h; exact ⟨ob, bc, ow, wc, h1, words_upd h2 hu (h3.mono hs), h3⟩
theorem OutOf.next {S : Nat → Prop} {W W' : World} {v : Value} {n : Nat} (h : OutOf S v) (hlt : ∀ o n cap, v = .slice (some o) n cap → o.block < W.heap.size) : OutOf (Nx S W W') v := by
  rintro o n cap e (k | k)
  · exact h o n cap e k
  · have := hlt o n cap e; omega
end Go.Proofs.YtgmimmdojkoppaaGreatDoor.W
/- Package heap: a range over pieces; bytes of a cell, piece by piece. -/
namespace Go.Proofs.YtgmimmdojkoppaaGreatDoor.W
open Go.ChangeShapes Go.WideShapes Go.RowKit Go.Shelf
set_option linter.unusedVariables false
theorem eg_pieces : ∀ args w, (callFunc 283 args).run Tryz.prog w = .ok (.enter 283 args) w := enters_of Tryz.func283 (by kernel_rfl) rfl
/-- the frame in which a round's body begins -/
def pAct (p1 p2 q1 q2 : Nat) (a : Act) (x y : Nat) : Act := { tmps := (((a.tmps.setIfInBounds p1 (.int .i64 (x : Int))).setIfInBounds p2 (.int .i64 (y : Int))).setIfInBounds q1 (.int .i64 (x : Int))).setIfInBounds q2 (.int .i64 (y : Int)), defers := [] }
theorem zip_two (t : Array Value) (p1 p2 : Nat) (v1 v2 : Value) : ((#[p1, p2] : Array Tmp).zip #[v1, v2]).foldl (fun t (p, v) => t.setIfInBounds p v) t = (t.setIfInBounds p1 v1).setIfInBounds p2 v2 := by
  simp
theorem pieces_law {g : Operand} {p1 p2 : Nat} {assign body : Code} {Q : Exit → Act → World → Prop} {a : Act} {W0 : World} {Bn : Nat} (nn : Nat) (hnn : nn ≤ 8388608) (hg : a.eval g = .func (.func 283) #[] #[.pointer (some ⟨Bn, 0, none⟩)])
    (I : Nat → World → Prop) (hL : ∀ i W, I i W → W.cell? ⟨Bn, 0, none⟩ = some (.int .i64 nn))
    (hI : ∀ i W W', I i W → Upd (fun k => k = W0.heap.size + 1) W W' → I i W') (h0 : I 0 W0) (q1 q2 : Nat)
    (hassign : ∀ (L x y : Nat) (W : World) (K : Act → World → Prop), K (pAct p1 p2 q1 q2 a x y) W → assign.wpIn (Fence.wide.inRound L) 7 Tryz.prog (Exit.then K (fun _ _ _ => False)) { tmps := (a.tmps.setIfInBounds p1 (.int .i64 (x : Int))).setIfInBounds p2 (.int .i64 (y : Int)), defers := [] } W)
    (hbody : ∀ (L : Nat) i (hi : i < pieceN nn) W, L = W0.heap.size + 1 → I i W → W0.heap.size + 2 ≤ W.heap.size → (∃ r, W.heap[L]? = some (.loop r)) → body.wpIn (Fence.wide.inRound L) 7 Tryz.prog (rndWay L W0.heap.size W (I (i + 1)) (fun _ _ => False)) (pAct p1 p2 q1 q2 a (pieceO nn i) (pieceW nn i)) W)
    (hdone : ∀ W, I (pieceN nn) W → W.heap[W0.heap.size]? = some (.deferred (some [])) → Q .normal { a with defers := { target := .collected W0.heap.size, args := #[] } :: a.defers } W) :
    (Code.rangeFunc g #[p1, p2] assign body).wp Tryz.prog Q a W0 := by
  have hlen : (piecesV nn).length = pieceN nn := by unfold piecesV; rw [List.length_map, List.length_range]
  have hget : ∀ i (hi : i < (piecesV nn).length), (piecesV nn)[i] = #[.int .i64 (pieceO nn i : Nat), .int .i64 (pieceW nn i : Nat)] := by
    intro i hi
    simp [piecesV]
  refine iter_law (pieces_iter Bn nn hnn) eg_pieces hg I (fun _ _ => False) hL hI (fun c W W' h _ => h) h0 (fun i => pAct p1 p2 q1 q2 a (pieceO nn i) (pieceW nn i)) ?_ ?_ ?_ ?_ (fun c W h => h.elim)
  · intro i hi; rw [hget i hi]; rfl
  · intro L i hi W K hK
    rw [hget i hi, zip_two]
    exact hassign L _ _ W K hK
  · intro L i hi W hLe hIi hs hr
    exact hbody L i (by rw [← hlen]; exact hi) W hLe hIi hs hr
  · intro W hW hD
    rw [hlen] at hW
    exact hdone W hW hD
theorem byte_leN (l : List Nat) (h : ∀ x ∈ l, x < 256) (j : Nat) (hj : j < l.length) : leN l / 256 ^ j % 256 = l[j] := by
  induction l generalizing j with
  | nil => simp at hj
  | cons a l ih =>
    have ha := h a (by simp)
    cases j with
    | zero => simp [leN]; omega
    | succ j =>
      have := ih (fun x hx => h x (List.mem_cons_of_mem _ hx)) j (by simpa using hj)
      have e : leN (a :: l) / 256 ^ (j + 1) = leN l / 256 ^ j := by
        rw [show 256 ^ (j + 1) = 256 * 256 ^ j by rw [Nat.pow_succ, Nat.mul_comm], ← Nat.div_div_eq_div_mul]
        congr 1
        simp [leN]; omega
      rw [e, this]; rfl
theorem saved_upTo (bs : List Nat) (h : ∀ x ∈ bs, x < 256) (o w : Nat) (ho : o + w ≤ bs.length) : saved (upTo bs o) o (leN (seg bs o w)) w = upTo bs (o + w) := by
  have hl := upTo_len bs o (by omega)
  have hs := seg_len bs o w ho
  apply List.ext_getElem?
  intro j
  rw [saved_get _ _ _ _ _ (by omega)]
  by_cases c : o ≤ j ∧ j < o + w
  · rw [if_pos c]
    have hj : j - o < (seg bs o w).length := by omega
    rw [byte_leN (seg bs o w) (fun x hx => h x (List.mem_of_mem_drop (List.mem_of_mem_take hx))) (j - o) hj]
    have e : (seg bs o w)[j - o]? = bs[j]? := by rw [seg_get _ _ _ _ (by omega), show o + (j - o) = j by omega]
    rw [List.getElem?_eq_getElem hj] at e
    rw [e]
    unfold upTo
    rw [List.getElem?_append_left (by rw [List.length_take]; omega), List.getElem?_take_of_lt (by omega)]
  · rw [if_neg c]
    unfold upTo
    by_cases d : j < o
    · rw [List.getElem?_append_left (by rw [List.length_take]; omega), List.getElem?_append_left (by rw [List.length_take]; omega), List.getElem?_take_of_lt (by omega), List.getElem?_take_of_lt (by omega)]
    · rw [List.getElem?_append_right (by rw [List.length_take]; omega), List.getElem?_append_right (by rw [List.length_take]; omega), List.length_take, List.length_take, List.getElem?_replicate, List.getElem?_replicate]
      by_cases f : j < bs.length
      · rw [if_pos (by omega), if_pos (by omega)]
      · rw [if_neg (by omega), if_neg (by omega)]
/-- bytes that can be read -/
def ByteRow (W : World) (o : Option Addr) (bs : List Nat) : Prop := bs = [] ∨ ∃ g p, o = some ⟨g, p, none⟩ ∧ ∀ i (hi : i < bs.length), W.cell? ⟨g, p + i, none⟩ = some (.int .u8 (bs[i] : Nat))
theorem byteRow_upd {S : Nat → Prop} {W W' : World} {o : Option Addr} {bs : List Nat} (h : ByteRow W o bs) (hu : Upd S W W') (ho : ∀ x, o = some x → ¬ S x.block) : ByteRow W' o bs := by
  rcases h with h | ⟨g, p, rfl, hc⟩
  · exact .inl h
  · exact .inr ⟨g, p, rfl, fun i hi => upd_cell hu (hc i hi) (show ¬ S g from ho ⟨g, p, none⟩ rfl)⟩
end Go.Proofs.YtgmimmdojkoppaaGreatDoor.W
