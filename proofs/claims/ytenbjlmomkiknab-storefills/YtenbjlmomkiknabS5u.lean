/- Package store: seek, whatever the gaps are. -/
import Derived.Test.YtenbjlmomkiknabS5t
namespace Go.Proofs.Ytenbjlmomkiknab.W
open Go.ChangeShapes Go.WideShapes Go.RowKit Go.Shelf
set_option linter.unusedVariables false
attribute [local go_sem] Oper.semAt_some

theorem Lay.putDef {W : World} {sb : Nat} {vr vb vf : Value} {s : Sto} (h : Lay W sb vr vb vf s) {D : Nat} {x : Option (List Deferred)} (hD : W.heap[D]? = some (.deferred x)) (o : Obj) : Lay (W.putObj D o) sb vr vb vf s := by
  have key : ∀ {e : TypeId} {size : Nat} {v : Value} {n : Nat} {xs : List Value}, W.ownsRow 0 e size v n xs → ∀ k, v.ownBlock = some k → (W.putObj D o).heap[k]? = W.heap[k]? := by
    intro e size v n xs ho k hk
    rcases ho.2 with ⟨rfl, _⟩ | ⟨g, cap, cur, rfl, _, hg, _⟩
    · simp [Value.ownBlock] at hk
    · simp [Value.ownBlock] at hk
      subst hk
      exact World.putObj_heap_other (by rintro rfl; rw [hg] at hD; cases hD)
  exact h.kept (World.putObj_heap_other (by rintro rfl; have := h.obj; rw [this] at hD; cases hD)) (key h.row) (key h.blk) (key h.free)
theorem seekpost_put {S : Nat → Prop} {W w' : World} {sb : Nat} {vb vf : Value} {n : Nat} {bn : Blk} {G : Sto → Nat → Nat → Nat → Prop} {e : Ending} (h : SeekPost S W sb vb vf n bn G e w') {D : Nat} {x : Option (List Deferred)} (hD : w'.heap[D]? = some (.deferred x)) (hW : W.heap.size ≤ D) (o : Obj) : SeekPost S W sb vb vf n bn G e (w'.putObj D o) := by
  obtain ⟨s1, vr1, bk, nx, p, bb, bx, h1, h2, h3, h4, rest⟩ := h
  have lt := (Array.getElem?_eq_some_iff.1 hD).1
  exact ⟨s1, vr1, bk, nx, p, bb, bx, h1, h2.putObj (.inr ⟨hW, lt⟩) o, h3.putDef hD o, h4.on (by simp), rest⟩
theorem Pk.congr {s s' : Sto} {c : List Nat} {bl : Nat → Blk} {p l u en : Nat → Nat} (k : Pk s c bl p l u en) (hg : ∀ n, s'.get n = s.get n) (hr : s'.row = s.row) : Pk s' c bl p l u en :=
  ⟨k.ne, k.zero, k.nodup, fun i n e => by rw [hg]; exact k.get i n e, k.next, k.pos, k.len, k.up, k.en0, k.en1, k.le, fun i hi => by rw [hr]; exact k.stop i hi, k.first, k.rest⟩
/-- what is left as it was but for the hand, and whether gaps have been sought -/
def Sto.turn (s : Sto) (h : Int) (b : Bool) : Sto := { s with hand := h, sought := b }
theorem fit_turn {s : Sto} (f : Fit s) (h : Int) (b : Bool) : Fit (s.turn h b) := ⟨f.len, f.row, f.byte, f.used0, f.used1, f.blk⟩
theorem packN_other {s : Sto} {c : List Nat} {bl : Nat → Blk} {p l en : Nat → Nat} (i n : Nat) (hi : i ≤ c.length) (hn : n ∉ c) : (packN s c bl p l en i).get n = s.get n := by
  induction i with
  | zero => rfl
  | succ i ih =>
    have e : c[i]? = some c[i] := List.getElem?_eq_getElem (by omega)
    have hne : n ≠ c.getD i 0 := by
      rw [getD_get e]
      rintro rfl
      exact hn (List.getElem_mem _)
    have this : (packN s c bl p l en (i + 1)).get n = ((packN s c bl p l en i).set (c.getD i 0) { bl i with pos := en i }).get n := rfl
    rw [this, get_set_ne _ hne]
    exact ih (by omega)
theorem mem_setL (row : List Nat) (o : Nat) (vs : List Nat) (x : Nat) (h : x ∈ setL row o vs) : x ∈ row ∨ x ∈ vs := by
  induction vs generalizing row o with
  | nil => exact .inl h
  | cons v r ih =>
    rcases ih _ _ h with g | g
    · rcases List.mem_or_eq_of_mem_set g with g | g
      · exact .inl g
      · exact .inr (by rw [g]; simp)
    · exact .inr (by simp [g])
theorem packN_byte {s : Sto} {c : List Nat} {bl : Nat → Blk} {p l en : Nat → Nat} (i : Nat) (h : ∀ x ∈ s.row, x < 256) : ∀ x ∈ (packN s c bl p l en i).row, x < 256 := by
  induction i with
  | zero => exact h
  | succ i ih =>
    intro x hx
    rcases mem_setL _ _ _ _ hx with g | g
    · exact ih x g
    · exact ih x (List.mem_of_mem_drop (List.mem_of_mem_take g))
theorem fit_packed {s : Sto} {c : List Nat} {bl : Nat → Blk} {p l u en : Nat → Nat} (f : Fit s) (k : Pk s c bl p l u en) : Fit (packedSto s c bl p l en) := by
  have hr := packN_rest (s := s) (c := c) (bl := bl) (p := p) (l := l) (en := en) c.length
  refine ⟨?_, ?_, ?_, ?_, ?_, ?_⟩
  · show (packN s c bl p l en c.length).blks.length ≤ _
    rw [packN_blks]; exact f.len
  · show ((packN s c bl p l en c.length).row.take (en c.length)).length ≤ _
    have := packN_row (s := s) (c := c) (bl := bl) (p := p) (l := l) (en := en) c.length
    have := f.row
    rw [List.length_take]; omega
  · intro x hx
    exact packN_byte c.length f.byte x (List.mem_of_mem_take hx)
  · show 0 ≤ (packN s c bl p l en c.length).used
    rw [hr.2.1]; exact f.used0
  · show (packN s c bl p l en c.length).used ≤ _
    rw [hr.2.1]; exact f.used1
  · intro n b hb
    have hb' : (packN s c bl p l en c.length).get n = some b := hb
    by_cases hn : n ∈ c
    · obtain ⟨j, hj, e⟩ := List.mem_iff_getElem.1 hn
      have hc : c[j]? = some n := by rw [List.getElem?_eq_getElem hj, e]
      rw [packN_earlier k c.length j n hj (Nat.le_refl _) hc] at hb'
      cases hb'
      have fb := f.blk n (bl j) (k.get j n hc)
      have := k.le j hj
      rw [k.pos j hj] at fb
      exact ⟨by show (0 : Int) ≤ (en j : Nat); omega, by show ((en j : Nat) : Int) ≤ _; omega, fb.2.2.1, fb.2.2.2⟩
    · rw [packN_other c.length n (Nat.le_refl _) hn] at hb'
      exact f.blk n b hb'
theorem packN_hand {s : Sto} {c : List Nat} {bl : Nat → Blk} {p l en : Nat → Nat} {n : Nat} (h : c[c.length - 1]? = some n) : (packN s c bl p l en c.length).hand = (n : Nat) := by
  have hlt := (List.getElem?_eq_some_iff.1 h).1
  obtain ⟨m, hm⟩ : ∃ m, c.length = m + 1 := ⟨c.length - 1, by omega⟩
  rw [hm, Nat.add_sub_cancel] at h
  have e : packN s c bl p l en c.length = packN s c bl p l en (m + 1) := by rw [hm]
  rw [e]
  show ((c.getD m 0 : Nat) : Int) = _
  rw [getD_get h]
/-- how seek leaves a store: behind bk there is room -/
def SeekG (s : Sto) (c : List Nat) (bl : Nat → Blk) (p l u en : Nat → Nat) (size : Int) (s1 : Sto) (bk nx q : Nat) : Prop :=
  (∃ j b, c[j]? = some bk ∧ s1 = s.turn bk b ∧ nx = c[j + 1]?.getD 0 ∧ q = p j + u j ∧ size ≤ roomAt s c j) ∨
  (∃ h b, s1 = packedSto (s.turn h b) c bl p l en ∧ c[c.length - 1]? = some bk ∧ nx = 0 ∧ q = en c.length)
section
variable {W : World} {sb : Nat} {vr vb vf : Value} {s : Sto} {c : List Nat} {bl : Nat → Blk} {p l u en : Nat → Nat}
theorem Pk.stopOf (k : Pk s c bl p l u en) {i : Nat} (hi : i < c.length) : (bl i).stop = (p i + u i : Nat) := by
  unfold Blk.stop
  rw [k.pos i hi, k.len i hi, k.up i hi]; omega
theorem Pk.nextGet (k : Pk s c bl p l u en) (i : Nat) : ∃ b, s.get (c[i + 1]?.getD 0) = some b := by
  cases e : c[i + 1]? with
  | none => exact ⟨s.head, rfl⟩
  | some n => exact ⟨_, k.get _ n e⟩
/-- a gap is found where the store lies as it lay -/
theorem seek_hit {W3 : World} (k : Pk s c bl p l u en) (f : Fit s) {n : Nat} {bn : Blk} (hn : s.get n = some bn) (hnc : n ∉ c) {S : Nat → Prop} (hO : Own (Nx S W W3) sb vr vb vf) (hU : Upd S W W3) (size : Int) (j : Nat) (hj : j < c.length) (b : Bool) (hL : Lay W3 sb vr vb vf (s.turn (c[j] : Nat) b)) (hr : size ≤ roomAt s c j) :
    SeekPost S W sb vb vf n bn (SeekG s c bl p l u en size) (.returned (.int .i64 (c[j] : Nat))) W3 := by
  have hc : c[j]? = some c[j] := List.getElem?_eq_getElem hj
  obtain ⟨bx, hbx⟩ := k.nextGet j
  have h0 : (0 : Nat) ∈ c := List.mem_of_getElem? k.zero
  refine ⟨s.turn (c[j] : Nat) b, vr, c[j], c[j + 1]?.getD 0, p j + u j, bl j, bx, rfl, hU, hL, hO, fit_turn f _ _, hn, k.get j _ hc, k.next j hj, hbx, ?_, ?_, k.stopOf hj, .inl ⟨j, b, hc, rfl, rfl, rfl, hr⟩⟩
  · rintro rfl; exact hnc (List.getElem_mem _)
  · rintro e
    cases e2 : c[j + 1]? with
    | none => rw [e2] at e; exact hnc (by rw [← e]; exact h0)
    | some m => rw [e2] at e; exact hnc (by rw [← e]; exact List.mem_of_getElem? e2)
/-- a gap is found behind the last block, blocks having been moved together -/
theorem seek_hit_packed {W3 : World} {h : Int} {b : Bool} (k : Pk s c bl p l u en) (f : Fit s) {n : Nat} {bn : Blk} (hn : s.get n = some bn) (hnc : n ∉ c) {S : Nat → Prop} (hO : Own (Nx S W W3) sb vr vb vf) (hU : Upd S W W3) (size : Int) (z : Nat) (hz : c[c.length - 1]? = some z) (hL : Lay W3 sb vr vb vf (packedSto (s.turn h b) c bl p l en)) :
    SeekPost S W sb vb vf n bn (SeekG s c bl p l u en size) (.returned (.int .i64 (z : Nat))) W3 := by
  have hlt := (List.getElem?_eq_some_iff.1 hz).1
  have k' : Pk (s.turn h b) c bl p l u en := k.congr (fun _ => rfl) rfl
  have h0 : (0 : Nat) ∈ c := List.mem_of_getElem? k.zero
  have hg : (packedSto (s.turn h b) c bl p l en).get z = some { bl (c.length - 1) with pos := en (c.length - 1) } := packN_earlier k' c.length (c.length - 1) z hlt (Nat.le_refl _) hz
  have hnx : (bl (c.length - 1)).next = ((0 : Nat) : Int) := by rw [k.next _ hlt, List.getElem?_eq_none (by omega)]; rfl
  have hst : ({ bl (c.length - 1) with pos := (en (c.length - 1) : Int) } : Blk).stop = (en c.length : Nat) := by
    show (en (c.length - 1) : Int) + up8 (bl (c.length - 1)).len = _
    have e := k.en1 (c.length - 1) hlt
    rw [show c.length - 1 + 1 = c.length by omega] at e
    rw [k.len _ hlt, k.up _ hlt, e]; omega
  have hgn : (packedSto (s.turn h b) c bl p l en).get n = some bn := (packN_other c.length n (Nat.le_refl _) hnc).trans hn
  refine ⟨_, vr, z, 0, en c.length, _, (packedSto (s.turn h b) c bl p l en).head, rfl, hU, hL, hO, fit_packed (fit_turn f h b) k', hgn, hg, hnx, rfl, ?_, ?_, hst, .inr ⟨h, b, rfl, hz, rfl, rfl⟩⟩
  · rintro rfl; exact hnc (List.mem_of_getElem? hz)
  · rintro rfl; exact hnc h0
end
end Go.Proofs.Ytenbjlmomkiknab.W
