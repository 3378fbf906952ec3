/- Package store in memory: a store's block, its row of bytes, its table of blocks, its heap of free Ids; what a call may change. -/
import Derived.Test.YtenbjlmomkiknabProg
import Derived.WalkKit
import Derived.WalkLawsBesides
import Derived.Laws.BitsAllLaws
import Derived.KernelRfl
import Derived.Deep.QuietTactic
import Derived.BigQuiet
import Derived.Below
import Derived.Laws.OwnMore
namespace Go.Proofs.Ytenbjlmomkiknab.W
open Go.ChangeShapes Go.WideShapes Go.RowKit

theorem hid {p : Prop} (h : p) : Hid p := h

/-- a block of the table -/
structure Blk where
  live : Bool
  pos : Int
  len : Int
  back : Int
  next : Int
def Blk.cells (b : Blk) : List Value := [.bool b.live, .int .i64 b.pos, .int .i64 b.len, .int .i64 b.back, .int .i64 b.next]
theorem Blk.cells_len (b : Blk) : b.cells.length = 5 := rfl
def flat (l : List Blk) : List Value := l.flatMap Blk.cells
theorem flat_len (l : List Blk) : (flat l).length = l.length * 5 := by
  induction l with
  | nil => rfl
  | cons b r ih => simp only [flat, List.flatMap_cons, List.length_append, Blk.cells_len, List.length_cons] at ih ⊢; omega
theorem flat_cons (b : Blk) (r : List Blk) : flat (b :: r) = b.cells ++ flat r := by simp [flat]
theorem flat_append (a b : List Blk) : flat (a ++ b) = flat a ++ flat b := by simp [flat]
theorem flat_get (l : List Blk) (i j : Nat) (b : Blk) (h : l[i]? = some b) (hj : j < 5) : (flat l)[i * 5 + j]? = b.cells[j]? := by
  induction l generalizing i with
  | nil => simp at h
  | cons c r ih =>
    rw [flat_cons]
    cases i with
    | zero =>
      simp at h
      subst h
      rw [List.getElem?_append_left (by rw [Blk.cells_len]; omega)]
      simp
    | succ k =>
      simp at h
      rw [List.getElem?_append_right (by rw [Blk.cells_len]; omega), Blk.cells_len, ← ih k h]
      congr 1; omega
theorem flat_set (l : List Blk) (i j : Nat) (b c : Blk) (u : Value) (h : l[i]? = some b) (hj : j < 5) (hc : c.cells = b.cells.set j u) : (flat l).set (i * 5 + j) u = flat (l.set i c) := by
  induction l generalizing i with
  | nil => simp at h
  | cons d r ih =>
    rw [flat_cons]
    cases i with
    | zero =>
      simp at h
      subst h
      rw [List.set_append_left _ _ (by rw [Blk.cells_len]; omega), List.set_cons_zero, flat_cons, hc]
      simp
    | succ k =>
      simp at h
      rw [List.set_append_right _ _ (by rw [Blk.cells_len]; omega), List.set_cons_succ, flat_cons, ← ih k h, Blk.cells_len]
      congr 2; omega

/-- a store -/
structure Sto where
  row : List Nat
  head : Blk
  blks : List Blk
  free : List Int
  used : Int
  hand : Int
  sought : Bool

/-- a byte in memory -/
def byteV (n : Nat) : Value := .int .u8 n
/-- what a store's own block holds -/
def Sto.obj (vr vb vf : Value) (s : Sto) : List Value := [vr, .bool s.head.live, .int .i64 s.head.pos, .int .i64 s.head.len, .int .i64 s.head.back, .int .i64 s.head.next, vb, vf, .int .i64 s.used, .int .i64 s.hand, .bool s.sought]

/-- a store as it lies in memory -/
structure Lay (W : World) (sb : Nat) (vr vb vf : Value) (s : Sto) : Prop where
  obj : W.heap[sb]? = some (.cells (s.obj vr vb vf).toArray 93 (0, 0))
  row : W.ownsRow 0 5 1 vr s.row.length (s.row.map byteV)
  blk : W.ownsRow 0 89 5 vb s.blks.length (flat s.blks)
  free : W.ownsRow 0 3 1 vf s.free.length (s.free.map (.int .i64))

/-- what a call may change: of what was there, the blocks of S -/
structure Upd (S : Nat → Prop) (W W' : World) : Prop where
  os : W'.os = W.os
  tape : W'.tape = W.tape
  output : W'.output = W.output
  size : W.heap.size ≤ W'.heap.size
  block : ∀ k, k < W.heap.size → ¬ S k → W'.heap[k]? = W.heap[k]?
/-- S, and what was laid since -/
def Nx (S : Nat → Prop) (W W' : World) : Nat → Prop := fun k => S k ∨ (W.heap.size ≤ k ∧ k < W'.heap.size)

theorem Nx.on {S : Nat → Prop} {a b c : World} {k : Nat} (h : Nx S a b k) (hs : b.heap.size ≤ c.heap.size) : Nx S a c k := h.imp id (fun g => ⟨g.1, Nat.lt_of_lt_of_le g.2 hs⟩)
theorem Upd.refl (S : Nat → Prop) (W : World) : Upd S W W := ⟨rfl, rfl, rfl, Nat.le_refl _, fun _ _ _ => rfl⟩
theorem Upd.trans {S : Nat → Prop} {a b c : World} (h : Upd S a b) (k : Upd (Nx S a b) b c) : Upd S a c :=
  ⟨k.os.trans h.os, k.tape.trans h.tape, k.output.trans h.output, Nat.le_trans h.size k.size, fun i hi hn => (k.block i (Nat.lt_of_lt_of_le hi h.size) (fun g => g.elim hn (fun g => by omega))).trans (h.block i hi hn)⟩
theorem Upd.mono {S T : Nat → Prop} {a b : World} (h : Upd S a b) (hs : ∀ k, S k → T k) : Upd T a b := ⟨h.os, h.tape, h.output, h.size, fun k hk hn => h.block k hk (fun g => hn (hs k g))⟩
theorem Upd.trans' {S : Nat → Prop} {a b c : World} (h : Upd S a b) (k : Upd S b c) : Upd S a c := h.trans (k.mono fun _ g => .inl g)
theorem Upd.below {S : Nat → Prop} {a b : World} (h : Upd S a b) {n : Nat} (hn : n ≤ a.heap.size) (hs : ∀ k, S k → n ≤ k) : Below n a b :=
  ⟨h.os, h.tape, h.output, h.size, fun k hk => h.block k (by omega) (fun g => by have := hs k g; omega)⟩
theorem Upd.of_below {S : Nat → Prop} {a b : World} (h : Below a.heap.size a b) : Upd S a b := ⟨h.os, h.tape, h.output, h.size, fun k hk _ => h.block k hk⟩
theorem Upd.drewN {S : Nat → Prop} {a b : World} (h : Upd S a b) (n : Nat) : Upd S a (b.drewN n) := ⟨h.os, h.tape, h.output, h.size, h.block⟩
theorem Upd.drew {S : Nat → Prop} {a b : World} (h : Upd S a b) : Upd S a b.drew := ⟨h.os, h.tape, h.output, h.size, h.block⟩
theorem Upd.alloc {S : Nat → Prop} {a b : World} (h : Upd S a b) (o : Obj) : Upd S a (b.alloc o) :=
  h.trans' ⟨rfl, rfl, rfl, by simp, fun k hk _ => Below.heap_alloc _ _ _ hk⟩
theorem Upd.setCell {S : Nat → Prop} {a b : World} (h : Upd S a b) {p : Addr} (hp : Nx S a b p.block) (u : Value) : Upd S a (b.setCell p u) :=
  h.trans ⟨rfl, rfl, rfl, by simp [World.setCell], fun k _ hn => Below.heap_setCell _ _ _ _ (by rintro rfl; exact hn hp)⟩
theorem Upd.grown {S : Nat → Prop} {a b c : World} {row : Option Nat} (h : Upd S a b) (hg : b.grownBy c row) (hr : ∀ k, row = some k → Nx S a b k) : Upd S a c :=
  h.trans ⟨hg.os, hg.tape, hg.output, hg.size, fun k hk hn => hg.block k hk (by rintro e; exact hn (hr k e.symm))⟩

/-- the blocks of a store are S's -/
structure Own (S : Nat → Prop) (sb : Nat) (vr vb vf : Value) : Prop where
  sb : S sb
  row : ∀ k, vr.ownBlock = some k → S k
  blk : ∀ k, vb.ownBlock = some k → S k
  free : ∀ k, vf.ownBlock = some k → S k
theorem Own.mono {S T : Nat → Prop} {sb : Nat} {vr vb vf : Value} (h : Own S sb vr vb vf) (g : ∀ k, S k → T k) : Own T sb vr vb vf :=
  ⟨g _ h.sb, fun k e => g _ (h.row k e), fun k e => g _ (h.blk k e), fun k e => g _ (h.free k e)⟩
theorem Own.on {S : Nat → Prop} {a b c : World} {sb : Nat} {vr vb vf : Value} (h : Own (Nx S a b) sb vr vb vf) (hs : b.heap.size ≤ c.heap.size) : Own (Nx S a c) sb vr vb vf := h.mono (fun _ g => g.on hs)
/-- a store lies in W, in blocks of S -/
def At (W : World) (S : Nat → Prop) (sb : Nat) (s : Sto) : Prop := ∃ vr vb vf, Lay W sb vr vb vf s ∧ Own S sb vr vb vf

section
variable {W : World} {sb : Nat} {vr vb vf : Value} {s : Sto}
theorem Lay.cell (h : Lay W sb vr vb vf s) (j : Nat) : W.cell? ⟨sb, j, none⟩ = (s.obj vr vb vf)[j]? := by
  rw [cell_of_row W sb j _ _ (0, 0) h.obj]; simp
theorem Lay.thaw (h : Lay W sb vr vb vf s) (j : Nat) : W.frozen? ⟨sb, j, none⟩ = false := by
  simp [World.frozen?, h.obj]
/-- whatever keeps the store's blocks keeps the store -/
theorem Lay.kept (h : Lay W sb vr vb vf s) {W' : World} (h0 : W'.heap[sb]? = W.heap[sb]?) (h1 : ∀ k, vr.ownBlock = some k → W'.heap[k]? = W.heap[k]?) (h2 : ∀ k, vb.ownBlock = some k → W'.heap[k]? = W.heap[k]?) (h3 : ∀ k, vf.ownBlock = some k → W'.heap[k]? = W.heap[k]?) : Lay W' sb vr vb vf s := by
  have key : ∀ {e : TypeId} {size : Nat} {v : Value} {n : Nat} {xs : List Value}, W.ownsRow 0 e size v n xs → (∀ k, v.ownBlock = some k → W'.heap[k]? = W.heap[k]?) → W'.ownsRow 0 e size v n xs := by
    intro e size v n xs ho hk
    refine ⟨ho.1, ?_⟩
    rcases ho.2 with hn | ⟨g, cap, cur, rfl, hb, hgg, rest⟩
    · exact .inl hn
    · exact .inr ⟨g, cap, cur, rfl, hb, (hk g rfl).trans hgg, rest⟩
  exact ⟨h0.trans h.obj, key h.row h1, key h.blk h2, key h.free h3⟩
end
theorem At.upd {W W' : World} {S T : Nat → Prop} {sb : Nat} {s : Sto} (h : At W S sb s) (hu : Upd T W W') (hd : ∀ k, S k → ¬ T k) : At W' S sb s := by
  obtain ⟨vr, vb, vf, hl, ho⟩ := h
  have lt : ∀ {e : TypeId} {size : Nat} {v : Value} {n : Nat} {xs : List Value}, W.ownsRow 0 e size v n xs → ∀ k, v.ownBlock = some k → k < W.heap.size := fun h k e => (h.lt k e).2
  exact ⟨vr, vb, vf, hl.kept (hu.block _ (Array.getElem?_eq_some_iff.1 hl.obj).1 (hd _ ho.sb)) (fun k e => hu.block _ (lt hl.row k e) (hd _ (ho.row k e))) (fun k e => hu.block _ (lt hl.blk k e) (hd _ (ho.blk k e))) (fun k e => hu.block _ (lt hl.free k e) (hd _ (ho.free k e))), ho⟩
theorem At.below {W W' : World} {S : Nat → Prop} {sb : Nat} {s : Sto} (h : At W S sb s) (hu : Below W.heap.size W W') : At W' S sb s := h.upd (T := fun _ => False) (Upd.of_below hu) (fun _ _ g => g)

/-- the block of a number: 0 is the front -/
def Sto.get (s : Sto) (n : Nat) : Option Blk := if n = 0 then some s.head else s.blks[n - 1]?
def Sto.set (s : Sto) (n : Nat) (b : Blk) : Sto := if n = 0 then { s with head := b } else { s with blks := s.blks.set (n - 1) b }
/-- where the block of a number lies -/
def Pt (sb : Nat) (vb : Value) (n B O : Nat) : Prop := (n = 0 ∧ B = sb ∧ O = 1) ∨ (n ≠ 0 ∧ vb.ownBlock = some B ∧ O = (n - 1) * 5)
section
variable {W : World} {sb : Nat} {vr vb vf : Value} {s : Sto}
theorem own_slice {e : TypeId} {size : Nat} {v : Value} {n : Nat} {xs : List Value} (h : W.ownsRow 0 e size v n xs) (hn : 0 < n) : ∃ g cap, v = .slice (some ⟨g, 0, none⟩) n cap ∧ n ≤ cap := by
  rcases h.2 with ⟨_, rfl⟩ | ⟨g, cap, cur, rfl, _, _, hc, _⟩
  · omega
  · exact ⟨g, cap, rfl, hc⟩
theorem Lay.pt (h : Lay W sb vr vb vf s) {n : Nat} {b : Blk} (hb : s.get n = some b) : ∃ B O, Pt sb vb n B O := by
  unfold Sto.get at hb
  split at hb
  · exact ⟨sb, 1, .inl ⟨by assumption, rfl, rfl⟩⟩
  · obtain ⟨g, cap, e, _⟩ := own_slice h.blk (Nat.lt_of_le_of_lt (Nat.zero_le _) (List.getElem?_eq_some_iff.1 hb).1)
    exact ⟨g, (n - 1) * 5, .inr ⟨by assumption, by rw [e]; rfl, rfl⟩⟩
theorem Lay.bcell (h : Lay W sb vr vb vf s) {n B O : Nat} {b : Blk} (hb : s.get n = some b) (hp : Pt sb vb n B O) (j : Nat) (hj : j < 5) : W.cell? ⟨B, O + j, none⟩ = b.cells[j]? := by
  unfold Sto.get at hb
  rcases hp with ⟨rfl, rfl, rfl⟩ | ⟨hn, e, rfl⟩
  · simp at hb
    subst hb
    rw [h.cell]
    match j, hj with
    | 0, _ | 1, _ | 2, _ | 3, _ | 4, _ => rfl
  · rw [if_neg hn] at hb
    have hi := (List.getElem?_eq_some_iff.1 hb).1
    obtain ⟨g, cap, rfl, _⟩ := own_slice h.blk (Nat.lt_of_le_of_lt (Nat.zero_le _) hi)
    simp [Value.ownBlock] at e
    subst e
    rw [h.blk.cellAt _ (by omega), flat_get _ _ _ _ hb hj]
theorem Lay.bthaw (h : Lay W sb vr vb vf s) {n B O : Nat} {b : Blk} (hb : s.get n = some b) (hp : Pt sb vb n B O) (j : Nat) : W.frozen? ⟨B, O + j, none⟩ = false := by
  unfold Sto.get at hb
  rcases hp with ⟨rfl, rfl, rfl⟩ | ⟨hn, e, rfl⟩
  · exact h.thaw _
  · rw [if_neg hn] at hb
    obtain ⟨g, cap, rfl, _⟩ := own_slice h.blk (Nat.lt_of_le_of_lt (Nat.zero_le _) (List.getElem?_eq_some_iff.1 hb).1)
    simp [Value.ownBlock] at e
    subst e
    exact h.blk.frozenAt _
/-- two rows of different elements are different blocks -/
theorem own_other {e : TypeId} {size : Nat} {v : Value} {n : Nat} {xs : List Value} (h : W.ownsRow 0 e size v n xs) {b : Nat} {c : Array Value} {t : TypeId} (hb : W.heap[b]? = some (.cells c t (0, 0))) (hne : e ≠ t) (j : Nat) (u : Value) : (W.setCell ⟨b, j, none⟩ u).ownsRow 0 e size v n xs := by
  refine ⟨h.1, ?_⟩
  rcases h.2 with hn | ⟨g, cap, cur, rfl, h0, hgg, rest⟩
  · exact .inl hn
  · refine .inr ⟨g, cap, cur, rfl, h0, ?_, rest⟩
    rw [Below.heap_setCell _ _ _ _ (by rintro rfl; rw [hgg] at hb; simp at hb; exact hne hb.2)]
    exact hgg
theorem heap_set {b : Nat} {c : List Value} {t : TypeId} (hb : W.heap[b]? = some (.cells c.toArray t (0, 0))) (j : Nat) (u : Value) : (W.setCell ⟨b, j, none⟩ u).heap[b]? = some (.cells (c.set j u).toArray t (0, 0)) := by
  simp only [World.setCell, Array.getElem?_modify]
  rw [hb]
  simp
/-- a cell of the store's own block is written -/
theorem Lay.store (h : Lay W sb vr vb vf s) {s' : Sto} (j : Nat) (u : Value) (ho : s'.obj vr vb vf = (s.obj vr vb vf).set j u) (h1 : s'.row = s.row) (h2 : s'.blks = s.blks) (h3 : s'.free = s.free) : Lay (W.setCell ⟨sb, j, none⟩ u) sb vr vb vf s' := by
  refine ⟨?_, ?_, ?_, ?_⟩
  · rw [ho]; exact heap_set h.obj j u
  · rw [h1]; exact own_other h.row h.obj (by decide) j u
  · rw [h2]; exact own_other h.blk h.obj (by decide) j u
  · rw [h3]; exact own_other h.free h.obj (by decide) j u
/-- a block's cell is written -/
theorem Lay.bstore (h : Lay W sb vr vb vf s) {n B O : Nat} {b c : Blk} (hb : s.get n = some b) (hp : Pt sb vb n B O) (j : Nat) (hj : j < 5) (u : Value) (hc : c.cells = b.cells.set j u) : Lay (W.setCell ⟨B, O + j, none⟩ u) sb vr vb vf (s.set n c) := by
  unfold Sto.get at hb
  rcases hp with ⟨rfl, rfl, rfl⟩ | ⟨hn, e, rfl⟩
  · simp at hb
    subst hb
    refine h.store _ _ ?_ rfl rfl rfl
    simp only [Blk.cells] at hc
    match j, hj with
    | 0, _ | 1, _ | 2, _ | 3, _ | 4, _ => simp at hc; simp [Sto.obj, Sto.set, hc]
  · rw [if_neg hn] at hb
    have hi := (List.getElem?_eq_some_iff.1 hb).1
    obtain ⟨g, cap, rfl, _⟩ := own_slice h.blk (Nat.lt_of_le_of_lt (Nat.zero_le _) hi)
    simp [Value.ownBlock] at e
    subst e
    have hst := h.blk.stored ((n - 1) * 5 + j) u
    rw [flat_set _ _ _ _ _ _ hb hj hc] at hst
    obtain ⟨_, hq⟩ := h.blk
    rcases hq with ⟨hq, _⟩ | ⟨g', cap', cur, hq, _, hgg, _⟩
    · cases hq
    · simp at hq
      obtain ⟨rfl, rfl⟩ := hq
      refine ⟨?_, ?_, ?_, ?_⟩
      · rw [Below.heap_setCell _ _ _ _ (by rintro rfl; have := h.obj; rw [hgg] at this; simp at this)]
        simp only [Sto.set, if_neg hn]
        exact h.obj
      · simp only [Sto.set, if_neg hn]
        exact own_other h.row hgg (by decide) _ u
      · simp only [Sto.set, if_neg hn, List.length_set]
        exact hst.1
      · simp only [Sto.set, if_neg hn]
        exact own_other h.free hgg (by decide) _ u
/-- a byte of the row is written -/
theorem Lay.rstore (h : Lay W sb vr vb vf s) {g cap : Nat} (hr : vr = .slice (some ⟨g, 0, none⟩) s.row.length cap) (j : Nat) (n : Nat) : Lay (W.setCell ⟨g, j, none⟩ (byteV n)) sb vr vb vf { s with row := s.row.set j n } := by
  subst hr
  have hst := (h.row.stored j (byteV n)).1
  obtain ⟨_, hq⟩ := h.row
  rcases hq with ⟨hq, _⟩ | ⟨g', cap', cur, hq, _, hgg, _⟩
  · cases hq
  · simp at hq
    obtain ⟨rfl, rfl⟩ := hq
    refine ⟨?_, ?_, own_other h.blk hgg (by decide) _ _, own_other h.free hgg (by decide) _ _⟩
    · rw [Below.heap_setCell _ _ _ _ (by rintro rfl; have := h.obj; rw [hgg] at this; simp at this)]
      exact h.obj
    · show World.ownsRow _ 0 5 1 (.slice (some ⟨g, 0, none⟩) s.row.length cap) (s.row.set j n).length ((s.row.set j n).map byteV)
      rw [List.length_set, List.map_set]
      exact hst
theorem Own.pt {S : Nat → Prop} (h : Own S sb vr vb vf) {n B O : Nat} (hp : Pt sb vb n B O) : S B := by
  rcases hp with ⟨_, rfl, _⟩ | ⟨_, e, _⟩
  · exact h.sb
  · exact h.blk _ e
end
end Go.Proofs.Ytenbjlmomkiknab.W
