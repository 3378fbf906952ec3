import Derived.Test.YtaebnnkhjlidiaaProg
import Derived.WalkKit
import Derived.WalkLawsBesides
import Derived.Laws.BitsAllLaws
import Derived.KernelRfl
import Derived.Deep.QuietTactic
import Derived.BigQuiet
import Derived.Below
import Derived.Laws.OwnMore
import Derived.RangeFuncNested
import Derived.RangeFuncBound
import Derived.RangeFuncCalls
import Derived.RangeFuncLeaves
import Derived.Shelf.Abstract
import Derived.Shelf.RegionOpen
import Derived.OwnWalkIn
import Derived.TacticsInMore
import Derived.LoopNIn
import Derived.LoopIn
import Derived.Deep.RegionWith
import Derived.Deep.RegionHeld3
import Derived.Deep.Cut
import Derived.Deep.DeepCutAuto
import Derived.Lib.AppendZerosOnto
import Derived.Lib.SliceRun
/- Package store in memory: a store's block, its row of bytes, its table of blocks, its heap of free Ids; what a call may change. -/
namespace Go.Proofs.Ytaebnnkhjlidiaa.W
open Go.ChangeShapes Go.WideShapes Go.RowKit

theorem hid {p : Prop} (h : p) : Hid p := h

/-- a block of the table -/
structure Blk where
  live : Bool
  pos : Int
  len : Int
  back : Int
  next : Int
def Blk.cells (b : Blk) : List Value := [.bool b.live, .int .i64 b.pos, .int .i64 b.len, .int .i64 b.back, .int .i64 b.next]
theorem Blk.cells_len (b : Blk) : b.cells.length = 5 := rfl
def flat (l : List Blk) : List Value := l.flatMap Blk.cells
theorem flat_len (l : List Blk) : (flat l).length = l.length * 5 := by
  induction l with
  | nil => rfl
  | cons b r ih => simp only [flat, List.flatMap_cons, List.length_append, Blk.cells_len, List.length_cons] at ih ⊢; omega
theorem flat_cons (b : Blk) (r : List Blk) : flat (b :: r) = b.cells ++ flat r := by simp [flat]
theorem flat_append (a b : List Blk) : flat (a ++ b) = flat a ++ flat b := by simp [flat]
theorem flat_get (l : List Blk) (i j : Nat) (b : Blk) (h : l[i]? = some b) (hj : j < 5) : (flat l)[i * 5 + j]? = b.cells[j]? := by
  induction l generalizing i with
  | nil => simp at h
  | cons c r ih =>
    rw [flat_cons]
    cases i with
    | zero =>
      simp at h
      subst h
      rw [List.getElem?_append_left (by rw [Blk.cells_len]; omega)]
      simp
    | succ k =>
      simp at h
      rw [List.getElem?_append_right (by rw [Blk.cells_len]; omega), Blk.cells_len, ← ih k h]
      congr 1; omega
theorem flat_set (l : List Blk) (i j : Nat) (b c : Blk) (u : Value) (h : l[i]? = some b) (hj : j < 5) (hc : c.cells = b.cells.set j u) : (flat l).set (i * 5 + j) u = flat (l.set i c) := by
  induction l generalizing i with
  | nil => simp at h
  | cons d r ih =>
    rw [flat_cons]
    cases i with
    | zero =>
      simp at h
      subst h
      rw [List.set_append_left _ _ (by rw [Blk.cells_len]; omega), List.set_cons_zero, flat_cons, hc]
      simp
    | succ k =>
      simp at h
      rw [List.set_append_right _ _ (by rw [Blk.cells_len]; omega), List.set_cons_succ, flat_cons, ← ih k h, Blk.cells_len]
      congr 2; omega

/-- a store -/
structure Sto where
  row : List Nat
  head : Blk
  blks : List Blk
  free : List Int
  used : Int
  hand : Int
  sought : Bool

/-- a byte in memory -/
def byteV (n : Nat) : Value := .int .u8 n
/-- what a store's own block holds -/
def Sto.obj (vr vb vf : Value) (s : Sto) : List Value := [vr, .bool s.head.live, .int .i64 s.head.pos, .int .i64 s.head.len, .int .i64 s.head.back, .int .i64 s.head.next, vb, vf, .int .i64 s.used, .int .i64 s.hand, .bool s.sought]

/-- a store as it lies in memory -/
structure Lay (W : World) (sb : Nat) (vr vb vf : Value) (s : Sto) : Prop where
  obj : W.heap[sb]? = some (.cells (s.obj vr vb vf).toArray 85 (0, 0))
  row : W.ownsRow 0 5 1 vr s.row.length (s.row.map byteV)
  blk : W.ownsRow 0 81 5 vb s.blks.length (flat s.blks)
  free : W.ownsRow 0 3 1 vf s.free.length (s.free.map (.int .i64))

/-- what a call may change: of what was there, the blocks of S -/
structure Upd (S : Nat → Prop) (W W' : World) : Prop where
  os : W'.os = W.os
  tape : W'.tape = W.tape
  output : W'.output = W.output
  size : W.heap.size ≤ W'.heap.size
  block : ∀ k, k < W.heap.size → ¬ S k → W'.heap[k]? = W.heap[k]?
/-- S, and what was laid since -/
def Nx (S : Nat → Prop) (W W' : World) : Nat → Prop := fun k => S k ∨ (W.heap.size ≤ k ∧ k < W'.heap.size)

theorem Nx.on {S : Nat → Prop} {a b c : World} {k : Nat} (h : Nx S a b k) (hs : b.heap.size ≤ c.heap.size) : Nx S a c k := h.imp id (fun g => ⟨g.1, Nat.lt_of_lt_of_le g.2 hs⟩)
theorem Upd.refl (S : Nat → Prop) (W : World) : Upd S W W := ⟨rfl, rfl, rfl, Nat.le_refl _, fun _ _ _ => rfl⟩
theorem Upd.trans {S : Nat → Prop} {a b c : World} (h : Upd S a b) (k : Upd (Nx S a b) b c) : Upd S a c :=
  ⟨k.os.trans h.os, k.tape.trans h.tape, k.output.trans h.output, Nat.le_trans h.size k.size, fun i hi hn => (k.block i (Nat.lt_of_lt_of_le hi h.size) (fun g => g.elim hn (fun g => by omega))).trans (h.block i hi hn)⟩
theorem Upd.mono {S T : Nat → Prop} {a b : World} (h : Upd S a b) (hs : ∀ k, S k → T k) : Upd T a b := ⟨h.os, h.tape, h.output, h.size, fun k hk hn => h.block k hk (fun g => hn (hs k g))⟩
theorem Upd.trans' {S : Nat → Prop} {a b c : World} (h : Upd S a b) (k : Upd S b c) : Upd S a c := h.trans (k.mono fun _ g => .inl g)
theorem Upd.below {S : Nat → Prop} {a b : World} (h : Upd S a b) {n : Nat} (hn : n ≤ a.heap.size) (hs : ∀ k, S k → n ≤ k) : Below n a b :=
  ⟨h.os, h.tape, h.output, h.size, fun k hk => h.block k (by omega) (fun g => by have := hs k g; omega)⟩
theorem Upd.of_below {S : Nat → Prop} {a b : World} (h : Below a.heap.size a b) : Upd S a b := ⟨h.os, h.tape, h.output, h.size, fun k hk _ => h.block k hk⟩
theorem Upd.drewN {S : Nat → Prop} {a b : World} (h : Upd S a b) (n : Nat) : Upd S a (b.drewN n) := ⟨h.os, h.tape, h.output, h.size, h.block⟩
theorem Upd.drew {S : Nat → Prop} {a b : World} (h : Upd S a b) : Upd S a b.drew := ⟨h.os, h.tape, h.output, h.size, h.block⟩
theorem Upd.alloc {S : Nat → Prop} {a b : World} (h : Upd S a b) (o : Obj) : Upd S a (b.alloc o) :=
  h.trans' ⟨rfl, rfl, rfl, by simp, fun k hk _ => Below.heap_alloc _ _ _ hk⟩
theorem Upd.setCell {S : Nat → Prop} {a b : World} (h : Upd S a b) {p : Addr} (hp : Nx S a b p.block) (u : Value) : Upd S a (b.setCell p u) :=
  h.trans ⟨rfl, rfl, rfl, by simp [World.setCell], fun k _ hn => Below.heap_setCell _ _ _ _ (by rintro rfl; exact hn hp)⟩
theorem Upd.grown {S : Nat → Prop} {a b c : World} {row : Option Nat} (h : Upd S a b) (hg : b.grownBy c row) (hr : ∀ k, row = some k → Nx S a b k) : Upd S a c :=
  h.trans ⟨hg.os, hg.tape, hg.output, hg.size, fun k hk hn => hg.block k hk (by rintro e; exact hn (hr k e.symm))⟩

/-- the blocks of a store are S's -/
structure Own (S : Nat → Prop) (sb : Nat) (vr vb vf : Value) : Prop where
  sb : S sb
  row : ∀ k, vr.ownBlock = some k → S k
  blk : ∀ k, vb.ownBlock = some k → S k
  free : ∀ k, vf.ownBlock = some k → S k
theorem Own.mono {S T : Nat → Prop} {sb : Nat} {vr vb vf : Value} (h : Own S sb vr vb vf) (g : ∀ k, S k → T k) : Own T sb vr vb vf :=
  ⟨g _ h.sb, fun k e => g _ (h.row k e), fun k e => g _ (h.blk k e), fun k e => g _ (h.free k e)⟩
theorem Own.on {S : Nat → Prop} {a b c : World} {sb : Nat} {vr vb vf : Value} (h : Own (Nx S a b) sb vr vb vf) (hs : b.heap.size ≤ c.heap.size) : Own (Nx S a c) sb vr vb vf := h.mono (fun _ g => g.on hs)
/-- a store lies in W, in blocks of S -/
def At (W : World) (S : Nat → Prop) (sb : Nat) (s : Sto) : Prop := ∃ vr vb vf, Lay W sb vr vb vf s ∧ Own S sb vr vb vf

section
variable {W : World} {sb : Nat} {vr vb vf : Value} {s : Sto}
theorem Lay.cell (h : Lay W sb vr vb vf s) (j : Nat) : W.cell? ⟨sb, j, none⟩ = (s.obj vr vb vf)[j]? := by
  rw [cell_of_row W sb j _ _ (0, 0) h.obj]; simp
theorem Lay.thaw (h : Lay W sb vr vb vf s) (j : Nat) : W.frozen? ⟨sb, j, none⟩ = false := by
  simp [World.frozen?, h.obj]
/-- whatever keeps the store's blocks keeps the store -/
theorem Lay.kept (h : Lay W sb vr vb vf s) {W' : World} (h0 : W'.heap[sb]? = W.heap[sb]?) (h1 : ∀ k, vr.ownBlock = some k → W'.heap[k]? = W.heap[k]?) (h2 : ∀ k, vb.ownBlock = some k → W'.heap[k]? = W.heap[k]?) (h3 : ∀ k, vf.ownBlock = some k → W'.heap[k]? = W.heap[k]?) : Lay W' sb vr vb vf s := by
  have key : ∀ {e : TypeId} {size : Nat} {v : Value} {n : Nat} {xs : List Value}, W.ownsRow 0 e size v n xs → (∀ k, v.ownBlock = some k → W'.heap[k]? = W.heap[k]?) → W'.ownsRow 0 e size v n xs := by
    intro e size v n xs ho hk
    refine ⟨ho.1, ?_⟩
    rcases ho.2 with hn | ⟨g, cap, cur, rfl, hb, hgg, rest⟩
    · exact .inl hn
    · exact .inr ⟨g, cap, cur, rfl, hb, (hk g rfl).trans hgg, rest⟩
  exact ⟨h0.trans h.obj, key h.row h1, key h.blk h2, key h.free h3⟩
end
theorem At.upd {W W' : World} {S T : Nat → Prop} {sb : Nat} {s : Sto} (h : At W S sb s) (hu : Upd T W W') (hd : ∀ k, S k → ¬ T k) : At W' S sb s := by
  obtain ⟨vr, vb, vf, hl, ho⟩ := h
  have lt : ∀ {e : TypeId} {size : Nat} {v : Value} {n : Nat} {xs : List Value}, W.ownsRow 0 e size v n xs → ∀ k, v.ownBlock = some k → k < W.heap.size := fun h k e => (h.lt k e).2
  exact ⟨vr, vb, vf, hl.kept (hu.block _ (Array.getElem?_eq_some_iff.1 hl.obj).1 (hd _ ho.sb)) (fun k e => hu.block _ (lt hl.row k e) (hd _ (ho.row k e))) (fun k e => hu.block _ (lt hl.blk k e) (hd _ (ho.blk k e))) (fun k e => hu.block _ (lt hl.free k e) (hd _ (ho.free k e))), ho⟩
theorem At.below {W W' : World} {S : Nat → Prop} {sb : Nat} {s : Sto} (h : At W S sb s) (hu : Below W.heap.size W W') : At W' S sb s := h.upd (T := fun _ => False) (Upd.of_below hu) (fun _ _ g => g)

/-- the block of a number: 0 is the front -/
def Sto.get (s : Sto) (n : Nat) : Option Blk := if n = 0 then some s.head else s.blks[n - 1]?
def Sto.set (s : Sto) (n : Nat) (b : Blk) : Sto := if n = 0 then { s with head := b } else { s with blks := s.blks.set (n - 1) b }
/-- where the block of a number lies -/
def Pt (sb : Nat) (vb : Value) (n B O : Nat) : Prop := (n = 0 ∧ B = sb ∧ O = 1) ∨ (n ≠ 0 ∧ vb.ownBlock = some B ∧ O = (n - 1) * 5)
section
variable {W : World} {sb : Nat} {vr vb vf : Value} {s : Sto}
theorem own_slice {e : TypeId} {size : Nat} {v : Value} {n : Nat} {xs : List Value} (h : W.ownsRow 0 e size v n xs) (hn : 0 < n) : ∃ g cap, v = .slice (some ⟨g, 0, none⟩) n cap ∧ n ≤ cap := by
  rcases h.2 with ⟨_, rfl⟩ | ⟨g, cap, cur, rfl, _, _, hc, _⟩
  · omega
  · exact ⟨g, cap, rfl, hc⟩
theorem Lay.pt (h : Lay W sb vr vb vf s) {n : Nat} {b : Blk} (hb : s.get n = some b) : ∃ B O, Pt sb vb n B O := by
  unfold Sto.get at hb
  split at hb
  · exact ⟨sb, 1, .inl ⟨by assumption, rfl, rfl⟩⟩
  · obtain ⟨g, cap, e, _⟩ := own_slice h.blk (Nat.lt_of_le_of_lt (Nat.zero_le _) (List.getElem?_eq_some_iff.1 hb).1)
    exact ⟨g, (n - 1) * 5, .inr ⟨by assumption, by rw [e]; rfl, rfl⟩⟩
theorem Lay.bcell (h : Lay W sb vr vb vf s) {n B O : Nat} {b : Blk} (hb : s.get n = some b) (hp : Pt sb vb n B O) (j : Nat) (hj : j < 5) : W.cell? ⟨B, O + j, none⟩ = b.cells[j]? := by
  unfold Sto.get at hb
  rcases hp with ⟨rfl, rfl, rfl⟩ | ⟨hn, e, rfl⟩
  · simp at hb
    subst hb
    rw [h.cell]
    match j, hj with
    | 0, _ | 1, _ | 2, _ | 3, _ | 4, _ => rfl
  · rw [if_neg hn] at hb
    have hi := (List.getElem?_eq_some_iff.1 hb).1
    obtain ⟨g, cap, rfl, _⟩ := own_slice h.blk (Nat.lt_of_le_of_lt (Nat.zero_le _) hi)
    simp [Value.ownBlock] at e
    subst e
    rw [h.blk.cellAt _ (by omega), flat_get _ _ _ _ hb hj]
theorem Lay.bthaw (h : Lay W sb vr vb vf s) {n B O : Nat} {b : Blk} (hb : s.get n = some b) (hp : Pt sb vb n B O) (j : Nat) : W.frozen? ⟨B, O + j, none⟩ = false := by
  unfold Sto.get at hb
  rcases hp with ⟨rfl, rfl, rfl⟩ | ⟨hn, e, rfl⟩
  · exact h.thaw _
  · rw [if_neg hn] at hb
    obtain ⟨g, cap, rfl, _⟩ := own_slice h.blk (Nat.lt_of_le_of_lt (Nat.zero_le _) (List.getElem?_eq_some_iff.1 hb).1)
    simp [Value.ownBlock] at e
    subst e
    exact h.blk.frozenAt _
/-- two rows of different elements are different blocks -/
theorem own_other {e : TypeId} {size : Nat} {v : Value} {n : Nat} {xs : List Value} (h : W.ownsRow 0 e size v n xs) {b : Nat} {c : Array Value} {t : TypeId} (hb : W.heap[b]? = some (.cells c t (0, 0))) (hne : e ≠ t) (j : Nat) (u : Value) : (W.setCell ⟨b, j, none⟩ u).ownsRow 0 e size v n xs := by
  refine ⟨h.1, ?_⟩
  rcases h.2 with hn | ⟨g, cap, cur, rfl, h0, hgg, rest⟩
  · exact .inl hn
  · refine .inr ⟨g, cap, cur, rfl, h0, ?_, rest⟩
    rw [Below.heap_setCell _ _ _ _ (by rintro rfl; rw [hgg] at hb; simp at hb; exact hne hb.2)]
    exact hgg
theorem heap_set {b : Nat} {c : List Value} {t : TypeId} (hb : W.heap[b]? = some (.cells c.toArray t (0, 0))) (j : Nat) (u : Value) : (W.setCell ⟨b, j, none⟩ u).heap[b]? = some (.cells (c.set j u).toArray t (0, 0)) := by
  simp only [World.setCell, Array.getElem?_modify]
  rw [hb]
  simp
/-- a cell of the store's own block is written -/
theorem Lay.store (h : Lay W sb vr vb vf s) {s' : Sto} (j : Nat) (u : Value) (ho : s'.obj vr vb vf = (s.obj vr vb vf).set j u) (h1 : s'.row = s.row) (h2 : s'.blks = s.blks) (h3 : s'.free = s.free) : Lay (W.setCell ⟨sb, j, none⟩ u) sb vr vb vf s' := by
  refine ⟨?_, ?_, ?_, ?_⟩
  · rw [ho]; exact heap_set h.obj j u
  · rw [h1]; exact own_other h.row h.obj (by decide) j u
  · rw [h2]; exact own_other h.blk h.obj (by decide) j u
  · rw [h3]; exact own_other h.free h.obj (by decide) j u
/-- a block's cell is written -/
theorem Lay.bstore (h : Lay W sb vr vb vf s) {n B O : Nat} {b c : Blk} (hb : s.get n = some b) (hp : Pt sb vb n B O) (j : Nat) (hj : j < 5) (u : Value) (hc : c.cells = b.cells.set j u) : Lay (W.setCell ⟨B, O + j, none⟩ u) sb vr vb vf (s.set n c) := by
  unfold Sto.get at hb
  rcases hp with ⟨rfl, rfl, rfl⟩ | ⟨hn, e, rfl⟩
  · simp at hb
    subst hb
    refine h.store _ _ ?_ rfl rfl rfl
    simp only [Blk.cells] at hc
    match j, hj with
    | 0, _ | 1, _ | 2, _ | 3, _ | 4, _ => simp at hc; simp [Sto.obj, Sto.set, hc]
  · rw [if_neg hn] at hb
    have hi := (List.getElem?_eq_some_iff.1 hb).1
    obtain ⟨g, cap, rfl, _⟩ := own_slice h.blk (Nat.lt_of_le_of_lt (Nat.zero_le _) hi)
    simp [Value.ownBlock] at e
    subst e
    have hst := h.blk.stored ((n - 1) * 5 + j) u
    rw [flat_set _ _ _ _ _ _ hb hj hc] at hst
    obtain ⟨_, hq⟩ := h.blk
    rcases hq with ⟨hq, _⟩ | ⟨g', cap', cur, hq, _, hgg, _⟩
    · cases hq
    · simp at hq
      obtain ⟨rfl, rfl⟩ := hq
      refine ⟨?_, ?_, ?_, ?_⟩
      · rw [Below.heap_setCell _ _ _ _ (by rintro rfl; have := h.obj; rw [hgg] at this; simp at this)]
        simp only [Sto.set, if_neg hn]
        exact h.obj
      · simp only [Sto.set, if_neg hn]
        exact own_other h.row hgg (by decide) _ u
      · simp only [Sto.set, if_neg hn, List.length_set]
        exact hst.1
      · simp only [Sto.set, if_neg hn]
        exact own_other h.free hgg (by decide) _ u
/-- a byte of the row is written -/
theorem Lay.rstore (h : Lay W sb vr vb vf s) {g cap : Nat} (hr : vr = .slice (some ⟨g, 0, none⟩) s.row.length cap) (j : Nat) (n : Nat) : Lay (W.setCell ⟨g, j, none⟩ (byteV n)) sb vr vb vf { s with row := s.row.set j n } := by
  subst hr
  have hst := (h.row.stored j (byteV n)).1
  obtain ⟨_, hq⟩ := h.row
  rcases hq with ⟨hq, _⟩ | ⟨g', cap', cur, hq, _, hgg, _⟩
  · cases hq
  · simp at hq
    obtain ⟨rfl, rfl⟩ := hq
    refine ⟨?_, ?_, own_other h.blk hgg (by decide) _ _, own_other h.free hgg (by decide) _ _⟩
    · rw [Below.heap_setCell _ _ _ _ (by rintro rfl; have := h.obj; rw [hgg] at this; simp at this)]
      exact h.obj
    · show World.ownsRow _ 0 5 1 (.slice (some ⟨g, 0, none⟩) s.row.length cap) (s.row.set j n).length ((s.row.set j n).map byteV)
      rw [List.length_set, List.map_set]
      exact hst
theorem Own.pt {S : Nat → Prop} (h : Own S sb vr vb vf) {n B O : Nat} (hp : Pt sb vb n B O) : S B := by
  rcases hp with ⟨_, rfl, _⟩ | ⟨_, e, _⟩
  · exact h.sb
  · exact h.blk _ e
end
end Go.Proofs.Ytaebnnkhjlidiaa.W
/- Plain facts on numbers and rows of bytes that package word turns on: no Go in sight. -/
namespace Go.Proofs.Ytaebnnkhjlidiaa.W

/-- is a pattern a NaN? -/
def nanB (n : Int) : Bool := decide (9218868437227405312 < n % 9223372036854775808)

/-- may a load be a string's? -/
def txtOk (l : Int) : Bool := decide (l / 1099511627776 ≤ 5 ∧ l % 1099511627776 < 2 ^ (8 * (l / 1099511627776)).toNat)

/-- a pattern's class -/
def cls (n : Int) : Int :=
  if nanB n = false ∨ n = 9221120237041090560 then 1
  else if n < 18444492273895866368 then 7
  else if n = 18444492273895866368 then 3
  else if n = 18444492273895866369 ∨ n = 18444492273895866370 then 4
  else if n < 18444773748872577024 then 7
  else if n < 18445055223849287680 then 2
  else if n < 18445336698825998336 then (if txtOk (n % 281474976710656) = true then 5 else 7)
  else if n < 18445618173802708992 then 6
  else 7

/-- the class of a load behind the tag 0 -/
def plainCls (l : Int) : Int := if l = 0 then 3 else if l = 1 ∨ l = 2 then 4 else 7
def textCls (l : Int) : Int := if txtOk l = true then 5 else 7

theorem and_shift (x m i : Nat) : x &&& (m * 2 ^ i) = ((x / 2 ^ i) &&& m) * 2 ^ i := by
  apply Nat.eq_of_testBit_eq
  intro j
  rw [Nat.testBit_and, Nat.testBit_mul_two_pow, Nat.testBit_mul_two_pow, Nat.testBit_and, Nat.testBit_div_two_pow]
  by_cases h : i ≤ j
  · have e : i + (j - i) = j := by omega
    have e' : j - i + i = j := by omega
    simp [h, e']
  · simp [h]

theorem nan_eq (n : Int) (h0 : 0 ≤ n) (h1 : n < 18446744073709551616) : bits .andNot .u64 n 9223372036854775808 = n % 9223372036854775808 := by
  rw [u64_andNot n 9223372036854775808 h0 h1 (by decide) (by decide)]
  have e : (18446744073709551615 - (9223372036854775808 : Int).toNat) = 2 ^ 63 - 1 := by decide
  rw [e, Nat.and_two_pow_sub_one_eq_mod]
  omega
theorem tagged_eq (n : Int) (h0 : 0 ≤ n) (h1 : n < 18446744073709551616) : (bits .and .u64 n 18444492273895866368 == 18444492273895866368) = decide (18444492273895866368 ≤ n) := by
  rw [u64_and n 18444492273895866368 h0 h1 (by decide) (by decide)]
  have e : (18444492273895866368 : Int).toNat = 8191 * 2 ^ 51 := by decide
  rw [e, and_shift, show (8191 : Nat) = 2 ^ 13 - 1 from by decide, Nat.and_two_pow_sub_one_eq_mod]
  rw [Bool.eq_iff_iff]
  simp only [beq_iff_eq, decide_eq_true_eq]
  omega
theorem tag_eq (n : Int) (h0 : 0 ≤ n) (h1 : n < 18446744073709551616) : bits .and .u64 (n / 281474976710656) 7 = n / 281474976710656 % 8 := by
  rw [u64_and _ 7 (by omega) (by omega) (by decide) (by decide)]
  have e : (7 : Int).toNat = 2 ^ 3 - 1 := by decide
  rw [e, Nat.and_two_pow_sub_one_eq_mod]
  omega
theorem load_eq (n : Int) (h0 : 0 ≤ n) (h1 : n < 18446744073709551616) : bits .and .u64 n 281474976710655 = n % 281474976710656 := by
  rw [u64_and n _ h0 h1 (by decide) (by decide)]
  have e : (281474976710655 : Int).toNat = 2 ^ 48 - 1 := by decide
  rw [e, Nat.and_two_pow_sub_one_eq_mod]
  omega
theorem room_eq (n : Int) (h0 : 0 ≤ n) (h1 : n < 18446744073709551616) : bits .and .u64 n 1099511627775 = n % 1099511627776 := by
  rw [u64_and n _ h0 h1 (by decide) (by decide)]
  have e : (1099511627775 : Int).toNat = 2 ^ 40 - 1 := by decide
  rw [e, Nat.and_two_pow_sub_one_eq_mod]
  omega
theorem join_eq (t l : Int) (h0 : 0 ≤ t) (h1 : t < 8) (h2 : 0 ≤ l) (h3 : l < 281474976710656) :
    bits .or .u64 (bits .or .u64 18444492273895866368 (IntKind.u64.wrap (t * 281474976710656))) l = 18444492273895866368 + t * 281474976710656 + l := by
  have e0 : IntKind.u64.wrap (t * 281474976710656) = t * 281474976710656 := by rw [IntKind.wrap_u64]; omega
  rw [e0, u64_or 18444492273895866368 _ (by decide) (by decide) (by omega) (by omega)]
  have e1 : (18444492273895866368 : Int).toNat ||| (t * 281474976710656).toNat = 18444492273895866368 + (t * 281474976710656).toNat :=
    nat_join 51 18444492273895866368 _ (by decide) (by omega)
  rw [e1, u64_or _ l (by omega) (by omega) h2 (by omega)]
  have e2 : ((18444492273895866368 + (t * 281474976710656).toNat : Nat) : Int).toNat ||| l.toNat = (18444492273895866368 + (t * 281474976710656).toNat) + l.toNat :=
    nat_join 48 _ _ (by omega) (by omega)
  rw [e2]
  omega

theorem cls_range (n : Int) : cls n = 1 ∨ cls n = 2 ∨ cls n = 3 ∨ cls n = 4 ∨ cls n = 5 ∨ cls n = 6 ∨ cls n = 7 := by
  unfold cls
  repeat' (first | split | simp)

/-! ### rows of bytes as numbers, the first byte lowest -/
def encN : List UInt8 → Nat
  | [] => 0
  | b :: r => b.toNat + 256 * encN r
def decN : Nat → Nat → List UInt8
  | 0, _ => []
  | k + 1, x => UInt8.ofNat (x % 256) :: decN k (x / 256)

theorem encN_lt (l : List UInt8) : encN l < 256 ^ l.length := by
  induction l with
  | nil => simp [encN]
  | cons b r ih =>
    have := b.toNat_lt
    simp only [encN, List.length_cons, Nat.pow_succ]
    omega
theorem encN_snoc (l : List UInt8) (b : UInt8) : encN (l ++ [b]) = encN l + b.toNat * 256 ^ l.length := by
  induction l with
  | nil => simp [encN]
  | cons c r ih =>
    simp only [List.cons_append, encN, ih, List.length_cons, Nat.pow_succ]
    rw [Nat.mul_add, ← Nat.mul_assoc, Nat.add_assoc]
    congr 2
    rw [Nat.mul_comm 256, Nat.mul_assoc, Nat.mul_comm 256]
theorem decN_length (k x : Nat) : (decN k x).length = k := by
  induction k generalizing x with
  | zero => rfl
  | succ k ih => simp [decN, ih]
theorem decN_encN (l : List UInt8) : decN l.length (encN l) = l := by
  induction l with
  | nil => rfl
  | cons b r ih =>
    have hb := b.toNat_lt
    simp only [List.length_cons, decN, encN]
    have e1 : (b.toNat + 256 * encN r) % 256 = b.toNat := by omega
    have e2 : (b.toNat + 256 * encN r) / 256 = encN r := by omega
    rw [e1, e2, ih]
    simp
theorem encN_decN (k x : Nat) (h : x < 256 ^ k) : encN (decN k x) = x := by
  induction k generalizing x with
  | zero => simp [decN, encN] at *; omega
  | succ k ih =>
    simp only [decN, encN]
    rw [ih (x / 256) (by rw [Nat.pow_succ] at h; omega)]
    have : (UInt8.ofNat (x % 256)).toNat = x % 256 := by simp
    rw [this]
    omega
theorem decN_snoc (k x : Nat) : decN (k + 1) x = decN k x ++ [UInt8.ofNat (x / 256 ^ k % 256)] := by
  induction k generalizing x with
  | zero => simp [decN]
  | succ k ih =>
    rw [decN, ih (x / 256)]
    simp only [decN, List.cons_append]
    rw [Nat.pow_succ, Nat.div_div_eq_div_mul, Nat.mul_comm]

/-! ### what the functions of package word answer -/
def smallB (i : Int) : Bool := decide (-140737488355328 ≤ i ∧ i ≤ 140737488355327)
def fltW (n : Int) : Int := if nanB n = true then 9221120237041090560 else n
def intW (i : Int) : Int := if smallB i = true then 18444773748872577024 + i % 281474976710656 else 0
def toInt (n : Int) : Int := if cls n = 2 then (if n % 281474976710656 < 140737488355328 then n % 281474976710656 else n % 281474976710656 - 281474976710656) else 0
def boolW (b : Bool) : Int := if b = true then 18444492273895866370 else 18444492273895866369
def toBool (n : Int) : Bool := if cls n = 4 then n % 281474976710656 == 2 else false
def hdlW (h : Int) : Int := if h < 281474976710656 then 18445336698825998336 + h else 0
def toHdl (n : Int) : Int := if cls n = 6 then n % 281474976710656 else 0
def txtW (s : ByteArray) : Int := if s.size ≤ 5 then 18445055223849287680 + s.size * 1099511627776 + encN s.data.toList else 0
def toTxt (n : Int) : ByteArray := if cls n = 5 then ⟨(decN (n % 281474976710656 / 1099511627776).toNat (n % 1099511627776).toNat).toArray⟩ else ByteArray.empty
end Go.Proofs.Ytaebnnkhjlidiaa.W
/- Package store: the small functions that only read. -/
namespace Go.Proofs.Ytaebnnkhjlidiaa.W
open Go.ChangeShapes Go.WideShapes Go.RowKit

/-- a length, rounded up -/
def up8 (n : Int) : Int := (n + 7) / 8 * 8
theorem and_not7 (n : Int) (h0 : 0 ≤ n) (h1 : n ≤ 2000000000) : bits .andNot .i64 n 7 = n / 8 * 8 := by
  obtain ⟨a, rfl⟩ := Int.eq_ofNat_of_zero_le h0
  show IntKind.i64.wrap ((BitVec.ofInt 64 (a : Int) &&& ~~~BitVec.ofInt 64 7).toNat : Int) = _
  have h7 : (BitVec.ofInt 64 7).toNat = 7 := by decide
  rw [BitVec.toNat_and, BitVec.toNat_not, ofInt_u64 a (by omega), h7]
  have e : (2 ^ 64 - 1 - 7 : Nat) = (2 ^ 61 - 1) * 2 ^ 3 := by decide
  rw [e, and_shift, Nat.and_two_pow_sub_one_eq_mod, Nat.mod_eq_of_lt (by omega), IntKind.wrap_i64]
  omega
theorem roundUp_c (n : Int) (w : World) (h0 : 0 ≤ n) (h1 : n ≤ 1000000000) : Calls Try.prog 60 #[.int .i64 n] w fun e w' => e = .returned (.int .i64 (up8 n)) ∧ w' = w := by
  have e : bits .andNot .i64 (n + 7) 7 = up8 n := and_not7 (n + 7) (by omega) (by omega)
  go_enter Try.func60, Try.ntmps60
  go_wp2
  go_ret
  exact ⟨by rw [← e]; rfl, rfl⟩
theorem number_c (n : Int) (w : World) (h0 : 0 ≤ n) (h1 : n ≤ 1000000000) : Calls Try.prog 59 #[.int .i64 n] w fun e w' => e = .returned (.int .i64 (n + 1)) ∧ w' = w := by
  go_enter Try.func59, Try.ntmps59
  go_wp2
  go_ret
  exact ⟨rfl, rfl⟩
theorem block_c (W : World) (sb : Nat) (vr vb vf : Value) (s : Sto) (h : Lay W sb vr vb vf s) (n : Nat) (b : Blk) (hb : s.get n = some b) (hlen : s.blks.length ≤ 1000000000) (B O : Nat) (hp : Pt sb vb n B O) :
    Calls Try.prog 74 #[.pointer (some ⟨sb, 0, none⟩), .int .i64 n] W fun e w' => e = .returned (.pointer (some ⟨B, O, none⟩)) ∧ w' = W := by
  rcases hp with ⟨rfl, rfl, rfl⟩ | ⟨hn, e, rfl⟩
  · go_enter Try.func74, Try.ntmps74
    go_wp2
    go_ret
    exact ⟨rfl, rfl⟩
  · unfold Sto.get at hb
    rw [if_neg hn] at hb
    have hi := (List.getElem?_eq_some_iff.1 hb).1
    obtain ⟨g, cap, rfl, _⟩ := own_slice h.blk (Nat.lt_of_le_of_lt (Nat.zero_le _) hi)
    simp [Value.ownBlock] at e
    subst e
    have c6 := h.cell 6
    simp [Sto.obj] at c6
    have hn0 : ((n : Int) == 0) = false := by simp; exact hn
    obtain ⟨k, rfl⟩ : ∃ k, n = k + 1 := ⟨n - 1, by omega⟩
    simp only [Nat.add_sub_cancel] at hi ⊢
    clear hb hn
    have h0 : (0 : Int) ≤ k := by omega
    have h1 : (k : Int) < s.blks.length := by omega
    go_enter Try.func74, Try.ntmps74
    go_wp2
    go_ret
    exact ⟨rfl, rfl⟩
theorem end_c (W : World) (B O : Nat) (p l : Int) (hp : W.cell? ⟨B, O + 1, none⟩ = some (.int .i64 p)) (hl : W.cell? ⟨B, O + 2, none⟩ = some (.int .i64 l)) (h0 : 0 ≤ l) (h1 : l ≤ 100000000) (h2 : 0 ≤ p) (h3 : p ≤ 10000000000000) :
    Calls Try.prog 78 #[.pointer (some ⟨B, O, none⟩)] W fun e w' => e = .returned (.int .i64 (p + up8 l)) ∧ ∃ m, w' = W.drewN m := by
  have e0 : 0 ≤ up8 l := by unfold up8; omega
  have e1 : up8 l ≤ 1000000000 := by unfold up8; omega
  go_enter Try.func78, Try.ntmps78
  go_wp2
  go_quiet ((go_at_call 60; exact Calls.quiet_of_same (roundUp_c _ _ h0 (by omega))))
  go_wp2
  go_ret
  exact ⟨rfl, _, rfl⟩
end Go.Proofs.Ytaebnnkhjlidiaa.W
/- Package store: room, has, part, and the faces that only read. -/
namespace Go.Proofs.Ytaebnnkhjlidiaa.W
open Go.ChangeShapes Go.WideShapes Go.RowKit

/-- numbers that no sum of which wraps round -/
structure Fit (s : Sto) : Prop where
  len : s.blks.length ≤ 1000000000
  row : s.row.length ≤ 1000000000000
  byte : ∀ n ∈ s.row, n < 256
  used0 : 0 ≤ s.used
  used1 : s.used ≤ 1000000000000
  blk : ∀ n b, s.get n = some b → 0 ≤ b.pos ∧ b.pos ≤ 1000000000000 ∧ 0 ≤ b.len ∧ b.len ≤ 100000000
def Blk.stop (b : Blk) : Int := b.pos + up8 b.len
/-- how many bytes are free behind a block -/
def roomOf (s : Sto) (b : Blk) (m : Nat) (c : Blk) : Int := if m = 0 then 2 * s.used + 64 - b.stop else c.pos - b.stop
section
variable {W : World} {sb : Nat} {vr vb vf : Value} {s : Sto}
theorem Lay.drewN (h : Lay W sb vr vb vf s) (m : Nat) : Lay (W.drewN m) sb vr vb vf s := ⟨h.obj, h.row, h.blk, h.free⟩
theorem bcells (h : Lay W sb vr vb vf s) {n B O : Nat} {b : Blk} (hb : s.get n = some b) (hp : Pt sb vb n B O) : W.cell? ⟨B, O, none⟩ = some (.bool b.live) ∧ W.cell? ⟨B, O + 1, none⟩ = some (.int .i64 b.pos) ∧ W.cell? ⟨B, O + 2, none⟩ = some (.int .i64 b.len) ∧ W.cell? ⟨B, O + 3, none⟩ = some (.int .i64 b.back) ∧ W.cell? ⟨B, O + 4, none⟩ = some (.int .i64 b.next) :=
  ⟨h.bcell hb hp 0 (by omega), h.bcell hb hp 1 (by omega), h.bcell hb hp 2 (by omega), h.bcell hb hp 3 (by omega), h.bcell hb hp 4 (by omega)⟩
theorem stop_le (f : Fit s) {n : Nat} {b : Blk} (hb : s.get n = some b) : 0 ≤ b.stop ∧ b.stop ≤ 1000200000000 := by
  obtain ⟨h1, h2, h3, h4⟩ := f.blk n b hb
  unfold Blk.stop up8
  omega
theorem room_c (h : Lay W sb vr vb vf s) (f : Fit s) (n m : Nat) (b c : Blk) (hb : s.get n = some b) (hm : b.next = m) (hc : s.get m = some c) :
    Calls Try.prog 84 #[.pointer (some ⟨sb, 0, none⟩), .int .i64 n] W fun e w' => e = .returned (.int .i64 (roomOf s b m c)) ∧ ∃ q, w' = W.drewN q := by
  obtain ⟨B, O, hp⟩ := h.pt hb
  obtain ⟨B2, O2, hp2⟩ := h.pt hc
  obtain ⟨_, b1, b2, _, b4⟩ := bcells h hb hp
  obtain ⟨_, d1, _, _, _⟩ := bcells h hc hp2
  obtain ⟨f1, f2, f3, f4⟩ := f.blk n b hb
  obtain ⟨g1, g2, g3, g4⟩ := f.blk m c hc
  have u0 := f.used0
  have u1 := f.used1
  have c8 := h.cell 8
  simp [Sto.obj] at c8
  obtain ⟨st0, st1⟩ := stop_le f hb
  have hst : Hid (b.pos + up8 b.len = b.stop) := rfl
  rw [hm] at b4
  have cb := fun k => block_c (W.drewN k) sb vr vb vf s (h.drewN k) n b hb f.len B O hp
  have cb2 := fun k => block_c (W.drewN k) sb vr vb vf s (h.drewN k) m c hc f.len B2 O2 hp2
  have ce : ∀ k, Calls Try.prog 78 #[.pointer (some ⟨B, O, none⟩)] (W.drewN k) fun e w' => e = .returned (.int .i64 b.stop) ∧ ∃ m, w' = (W.drewN k).drewN m := fun k => end_c (W.drewN k) B O b.pos b.len b1 b2 f3 f4 f1 (by omega)
  have cb0 := cb 0
  rw [World.drewN_zero] at cb0
  have R : Hid (roomOf s b m c = if m = 0 then 2 * s.used + 64 - b.stop else c.pos - b.stop) := rfl
  by_cases hm0 : m = 0
  · have R0 : Hid (roomOf s b m c = 2 * s.used + 64 - b.stop) := by rw [Hid.out R, if_pos hm0]; exact hid rfl
    have hmb : ((m : Int) == 0) = true := by simp [hm0]
    clear R hp2 d1 cb2 cb hb hc
    go_enter Try.func84, Try.ntmps84
    go_wp2_with (go_at_call 74; (with_reducible refine cb0.mono ?_); rintro e w' ⟨rfl, hw⟩; (have hw' := hw.symm); subst hw'; clear hw)
    go_quiet ((go_at_call 78; exact Calls.quiet_of (ce _)))
    go_wp2
    go_ret
    exact ⟨by rw [R0.out]; rfl, _, rfl⟩
  · have R0 : Hid (roomOf s b m c = c.pos - b.stop) := by rw [Hid.out R, if_neg hm0]; exact hid rfl
    have hmb : ((m : Int) == 0) = false := by simp [hm0]
    clear R hb hc hm0
    go_enter Try.func84, Try.ntmps84
    go_wp2_with (go_at_call 74; (with_reducible refine cb0.mono ?_); rintro e w' ⟨rfl, hw⟩; (have hw' := hw.symm); subst hw'; clear hw)
    go_quiet (first | (go_at_call 78; exact Calls.quiet_of (ce _)) | (go_at_call 74; exact Calls.quiet_of_same (cb2 _)))
    go_wp2
    go_ret
    exact ⟨by rw [R0.out]; rfl, _, rfl⟩
end
end Go.Proofs.Ytaebnnkhjlidiaa.W
/- A range over a function, for whatever iterator: the loop's record, a round, the statement. -/
namespace Go.Proofs.Ytaebnnkhjlidiaa.W
open Go.ChangeShapes Go.WideShapes Go.RowKit Go.Shelf
set_option linter.unusedVariables false

/-- the record of a loop over a function, and the block for its rounds' deferred calls -/
structure LoopAt (W : World) (L D : Nat) (r : Loop) : Prop where
  lp : W.heap[L]? = some (.loop r)
  defs : W.heap[D]? = some (.deferred (some []))
theorem LoopAt.kept {W W' : World} {L D : Nat} {r : Loop} (h : LoopAt W L D r) (h1 : W'.heap[L]? = W.heap[L]?) (h2 : W'.heap[D]? = W.heap[D]?) : LoopAt W' L D r := ⟨h1.trans h.lp, h2.trans h.defs⟩
theorem LoopAt.put {W : World} {L D : Nat} {r : Loop} (h : LoopAt W L D r) (q : Loop) : LoopAt (W.putObj L (.loop q)) L D q := by
  refine ⟨World.putObj_heap_same (Array.getElem?_eq_some_iff.1 h.lp).1, ?_⟩
  rw [World.putObj_heap_other (by rintro rfl; have := h.lp; rw [h.defs] at this; cases this)]
  exact h.defs
theorem Upd.putObj {S : Nat → Prop} {a b : World} (h : Upd S a b) {L : Nat} (hp : Nx S a b L) (o : Obj) : Upd S a (b.putObj L o) :=
  h.trans ⟨rfl, rfl, rfl, by simp, fun k _ hn => World.putObj_heap_other (by rintro rfl; exact hn hp)⟩

/-- how a round's body is left -/
def bodyWay (L D : Nat) (r : Loop) (Rn : World → Prop) (Rx : Code → World → Prop) : Exit → Act → World → Prop
  | .normal, _, W => LoopAt W L D { r with state := .busy } ∧ Rn (W.putObj L (.loop { r with state := .ready, pending := none }))
  | .ret, _, W => LoopAt W L D { r with state := .busy } ∧ Rx .ret (W.putObj L (.loop { r with state := .done, pending := some .ret }))
  | .exit id, _, W => LoopAt W L D { r with state := .busy } ∧ Rx (.exit id) (W.putObj L (.loop { r with state := .done, pending := some (.exit id) }))
  | _, _, _ => False
/-- a round -/
theorem yield_law {P : Program} {m L D : Nat} {r : Loop} {args : Array Value} {W : World} {Rn : World → Prop} {Rx : Code → World → Prop} (hl : LoopAt W L D r) (hr : r.state = .ready) (hs : args.size = r.params.size) (a1 : Act)
    (hassign : ∀ K : Act → World → Prop, K a1 W → r.assign.wpIn (Fence.wide.inRound L) m P (Exit.then K (fun _ _ _ => False)) { tmps := (r.params.zip args).foldl (fun t (p, v) => t.setIfInBounds p v) r.tmps, defers := [] } W)
    (hbody : ∀ W2, W2 = W.putObj L (.loop { r with state := .busy }) → LoopAt W2 L D { r with state := .busy } → r.body.wpIn (Fence.wide.inRound L) m P (bodyWay L D r Rn Rx) a1 W2) :
    YieldAt Fence.wide m P L args W (fun e W' => (e = .returned (.bool true) ∧ Rn W') ∨ (e = .returned (.bool false) ∧ ∃ c, Rx c W')) := by
  have hy := run_yield (P := P) (args := args) hl.lp hs
  refine ⟨r.fn, _, r.assign, r.body, hy, roundIn_of_wpIn (F := Fence.wide) trivial (hassign _ ⟨_, run_beginRound hl.lp hr, ?_⟩)⟩
  refine wpIn_mono (hbody _ rfl (hl.put _)) ?_
  rintro e a3 W3 hp
  cases e with
  | normal =>
    obtain ⟨h3, h4⟩ := hp
    exact ⟨_, _, run_endRound none h3.lp, .inl ⟨rfl, h4⟩⟩
  | ret =>
    obtain ⟨h3, h4⟩ := hp
    exact ⟨_, _, run_endRound (some .ret) h3.lp, .inr ⟨rfl, _, h4⟩⟩
  | exit id =>
    obtain ⟨h3, h4⟩ := hp
    exact ⟨_, _, run_endRound (some (.exit id)) h3.lp, .inr ⟨rfl, _, h4⟩⟩
  | goto t => exact hp.elim
  | panic ch => exact hp.elim
  | outgrown => exact hp.elim
/-- the statement -/
theorem rf_law {P : Program} {n : Nat} {g : Operand} {ps : Array Tmp} {assign body : Code} {Q : Exit → Act → World → Prop} {a : Act} {w : World} {gf : Nat} {lb : Array Value} (hg : a.eval g = .func (.func gf) #[] lb) (eg : ∀ args w, (callFunc gf args).run P w = .ok (.enter gf args) w)
    (Dn : World → Prop) (Sp : Code → World → Prop)
    (hcall : ∀ (r : Loop) (W1 : World), r.state = .ready → r.pending = none → r.tmps = a.tmps → r.params = ps → r.assign = assign → r.body = body → W1 = (w.alloc (.deferred (some []))).alloc (.loop r) → LoopAt W1 (w.heap.size + 1) w.heap.size r →
      CallsIn Fence.wide (n - 1) P gf (#[.func (.yield (w.heap.size + 1)) #[] #[]] ++ lb) W1 fun e W3 => (∃ v, e = .returned v) ∧ ((Dn W3 ∧ ∃ q : Loop, LoopAt W3 (w.heap.size + 1) w.heap.size q ∧ q.state ≠ .busy ∧ q.pending = none) ∨ (∃ c, Sp c W3 ∧ ∃ q : Loop, LoopAt W3 (w.heap.size + 1) w.heap.size q ∧ q.state ≠ .busy ∧ q.pending = some c)))
    (hdone : ∀ (W3 : World) (q : Loop), Dn W3 → LoopAt (W3.putObj (w.heap.size + 1) (.loop q)) (w.heap.size + 1) w.heap.size q → Q .normal { a with defers := { target := .collected w.heap.size, args := #[] } :: a.defers } (W3.putObj (w.heap.size + 1) (.loop q)))
    (hstop : ∀ (W3 : World) (q : Loop) (c : Code), Sp c W3 → LoopAt (W3.putObj (w.heap.size + 1) (.loop q)) (w.heap.size + 1) w.heap.size q → c.wpIn Fence.wide n P Q { a with defers := { target := .collected w.heap.size, args := #[] } :: a.defers } (W3.putObj (w.heap.size + 1) (.loop q))) :
    (Code.rangeFunc g ps assign body).wpIn Fence.wide n P Q a w := by
  refine wpIn_rangeFunc ?_
  intro fn hfn
  obtain ⟨r, hr⟩ : ∃ r : Loop, r = { state := .ready, pending := none, fn, tmps := a.tmps, params := ps, assign, body, defers := w.heap.size } := ⟨_, rfl⟩
  obtain ⟨W1, hW1⟩ : ∃ W1, W1 = (w.alloc (.deferred (some []))).alloc (.loop r) := ⟨_, rfl⟩
  have hL1 : W1.heap[w.heap.size + 1]? = some (.loop r) := by
    rw [hW1]; have := World.alloc_heap_new (w.alloc (.deferred (some []))) (.loop r); rwa [World.size_alloc] at this
  have hK1 : W1.heap[w.heap.size]? = some (.deferred (some [])) := by
    rw [hW1]; exact (Below.heap_alloc _ _ _ (by simp)).trans (World.alloc_heap_new w _)
  refine ⟨w.heap.size + 1, [{ target := .collected w.heap.size, args := #[] }], W1, { target := .fn (.func gf) lb, args := #[.func (.yield (w.heap.size + 1)) #[] #[]] }, W1, gf, #[.func (.yield (w.heap.size + 1)) #[] #[]] ++ lb, W1, ?_, ?_, ?_, ?_, fun h => by simp [Fence.wide] at h, ?_⟩
  · rw [hW1, hr]; exact run_enterLoop_outer _ _ _ _ _
  · simp only [resolve, hg]
    simp [go_sem]
  · intro f' hf'; trivial
  · simp [invoke, go_sem, eg]
  · refine (hcall r W1 (by rw [hr]) (by rw [hr]) (by rw [hr]) (by rw [hr]) (by rw [hr]) (by rw [hr]) hW1 ⟨hL1, hK1⟩).mono ?_
    rintro e W3 ⟨⟨v, rfl⟩, ⟨hd, q, hq, hs, hp⟩ | ⟨c, hd, q, hq, hs, hp⟩⟩
    · refine ⟨none, _, by rw [← hp]; exact run_endLoop hq.lp hs, ?_⟩
      exact hdone W3 _ hd (hq.put _)
    · refine ⟨some c, _, by rw [← hp]; exact run_endLoop hq.lp hs, ?_⟩
      exact hstop W3 _ c hd (hq.put _)
end Go.Proofs.Ytaebnnkhjlidiaa.W
/- Package store: the blocks of the ring, one behind the other: the iterator. -/
namespace Go.Proofs.Ytaebnnkhjlidiaa.W
open Go.ChangeShapes Go.WideShapes Go.RowKit Go.Shelf
set_option linter.unusedVariables false

theorem from_c (W : World) (sb : Nat) (n : Int) : Calls Try.prog 83 #[.pointer (some ⟨sb, 0, none⟩), .int .i64 n] W fun e w' => e = .returned (.func (.func 86) #[] #[.pointer (some ⟨W.heap.size + 1, 0, none⟩), .pointer (some ⟨W.heap.size, 0, none⟩)]) ∧ w' = (W.alloc (.cells #[.pointer (some ⟨sb, 0, none⟩)] 52)).alloc (.cells #[.int .i64 n] 3) := by
  go_enter Try.func83, Try.ntmps83
  go_wp2
  go_ret
  exact ⟨rfl, rfl⟩
/-- how far the iterator is -/
def idxAt (xs : List Nat) (Bn : Nat) (W : World) : Nat := xs.findIdx (fun x : Nat => decide ((W.cell? ⟨Bn, 0, none⟩).map intOf = some (x : Int)))
theorem idxAt_eq (xs : List Nat) (Bn : Nat) (W : World) (i : Nat) (hi : i < xs.length) (hd : xs.Nodup) (hc : W.cell? ⟨Bn, 0, none⟩ = some (.int .i64 (xs[i] : Nat))) : idxAt xs Bn W = i := by
  unfold idxAt
  rw [List.findIdx_eq hi]
  refine ⟨by simp [hc, intOf], fun j hj => ?_⟩
  simp only [hc, Option.map_some, intOf, decide_eq_false_iff_not, Option.some.injEq]
  intro e
  have e' : xs[i] = xs[j] := by omega
  exact List.pairwise_iff_getElem.1 hd j i (by omega) hi hj e'.symm
set_option maxHeartbeats 1000000 in
theorem from1_in (n l Bn Bs sb : Nat) (hn : 1 ≤ n) (xs : List Nat) (hne : 0 < xs.length) (hd : xs.Nodup) (J K : Nat → World → Prop) (E X : World → Prop)
    (hY : ∀ i (hi : i < xs.length) W, J i W → YieldAt Fence.wide (n - 1) Try.prog l #[.int .i64 (xs[i] : Nat)] W fun e W' => (e = .returned (.bool true) ∧ K i W') ∨ (e = .returned (.bool false) ∧ X W'))
    (hJ : ∀ i (hi : i < xs.length) W, J i W → W.cell? ⟨Bn, 0, none⟩ = some (.int .i64 (xs[i] : Nat)))
    (hK : ∀ i (hi : i < xs.length) W, K i W → W.cell? ⟨Bn, 0, none⟩ = some (.int .i64 (xs[i] : Nat)) ∧ W.frozen? ⟨Bn, 0, none⟩ = false ∧ W.cell? ⟨Bs, 0, none⟩ = some (.pointer (some ⟨sb, 0, none⟩)) ∧ ∃ B O, Calls Try.prog 74 #[.pointer (some ⟨sb, 0, none⟩), .int .i64 (xs[i] : Nat)] W (fun e w' => e = .returned (.pointer (some ⟨B, O, none⟩)) ∧ w' = W) ∧ W.cell? ⟨B, O + 4, none⟩ = some (.int .i64 (xs[i + 1]?.getD 0 : Nat)))
    (hS : ∀ i (hi : i + 1 < xs.length) W, K i W → xs[i + 1] ≠ 0 ∧ J (i + 1) (W.setCell ⟨Bn, 0, none⟩ (.int .i64 (xs[i + 1] : Nat))))
    (hE : ∀ i W, i + 1 = xs.length → K i W → E (W.setCell ⟨Bn, 0, none⟩ (.int .i64 0)))
    (W : World) (h0 : J 0 W) :
    CallsIn Fence.wide n Try.prog 86 #[.func (.yield l) #[] #[], .pointer (some ⟨Bn, 0, none⟩), .pointer (some ⟨Bs, 0, none⟩)] W fun e W' => (∃ v, e = .returned v) ∧ (E W' ∨ X W') := by
  refine callsIn_of_wp Try.func86 rfl trivial ?_ rfl
  simp only [Try.ntmps86, List.size_toArray, List.length_cons, List.length_nil, Nat.reduceAdd, Nat.reduceSub, Array.replicate_succ, Array.replicate_zero, List.push_toArray, List.append_toArray, List.nil_append, List.cons_append]
  gi_wp2
  gi_loopw [5] (fun _ wr => ∃ i, i < xs.length ∧ J i wr) (fun _ wr => xs.length - idxAt xs Bn wr)
  case atStart => exact ⟨0, hne, h0⟩
  case round =>
    obtain ⟨i, hi, hJi⟩ := hrel
    have c1 := hJ i hi wr hJi
    obtain ⟨fn, tmps, assign, body, hy, hR⟩ := hY i hi wr hJi
    gi_wp2
    refine hR.mono ?_
    rintro e W3 (⟨rfl, hK3⟩ | ⟨rfl, hX3⟩)
    · obtain ⟨k1, k2, k3, B, O, cb, k4⟩ := hK i hi W3 hK3
      by_cases hlast : i + 1 < xs.length
      · obtain ⟨hz, hJ4⟩ := hS i hlast W3 hK3
        have ex : xs[i + 1]?.getD 0 = xs[i + 1] := by simp [hlast]
        rw [ex] at k4
        have hz' : (((xs[i + 1] : Nat) : Int) == 0) = false := by simp; omega
        have k5 : (W3.setCell ⟨Bn, 0, none⟩ (.int .i64 (xs[i + 1] : Nat))).cell? ⟨Bn, 0, none⟩ = some (.int .i64 (xs[i + 1] : Nat)) := World.cell?_setCell_same' _ _ _ (by rw [k1]; rfl)
        have hm : Hid (idxAt xs Bn (W3.setCell ⟨Bn, 0, none⟩ (.int .i64 (xs[i + 1] : Nat))) = i + 1) := idxAt_eq xs Bn _ (i + 1) hlast hd k5
        have hm0 : Hid (idxAt xs Bn wr = i) := idxAt_eq xs Bn _ i hi hd c1
        have HJ := hid hJ4
        clear hJ4 hY hJ hK hS hE hJi hy
        gi_wp2_with ((refine ⟨trivial, ?_⟩); gi_at_call 74; (refine (callsIn_wide.2 cb).mono ?_); rintro e w' ⟨rfl, hw⟩; (have hw' := hw.symm); subst hw'; clear hw)
        go_roundw
        case rel => exact ⟨i + 1, hlast, HJ⟩
        case measure => rw [hm.out, hm0.out]; omega
      · have ex : xs[i + 1]?.getD 0 = 0 := by simp [List.getElem?_eq_none (by omega : xs.length ≤ i + 1)]
        rw [ex] at k4
        have hE4 := hid (hE i W3 (by omega) hK3)
        have k5 : (W3.setCell ⟨Bn, 0, none⟩ (.int .i64 0)).cell? ⟨Bn, 0, none⟩ = some (.int .i64 0) := World.cell?_setCell_same' _ _ _ (by rw [k1]; rfl)
        clear hY hJ hK hS hE hJi hy
        gi_wp2_with ((refine ⟨trivial, ?_⟩); gi_at_call 74; (refine (callsIn_wide.2 cb).mono ?_); rintro e w' ⟨rfl, hw⟩; (have hw' := hw.symm); subst hw'; clear hw)
        refine bodyPost_ret (results_none rfl _ _ _) rfl ?_
        exact ⟨⟨_, rfl⟩, .inl hE4.out⟩
    · clear hY hJ hK hS hE hJi hy
      gi_wp2
      go_end0
      exact ⟨⟨_, rfl⟩, .inr hX3⟩
end Go.Proofs.Ytaebnnkhjlidiaa.W
/- Package store: a range over the blocks of the ring. -/
namespace Go.Proofs.Ytaebnnkhjlidiaa.W
open Go.ChangeShapes Go.WideShapes Go.RowKit Go.Shelf
set_option linter.unusedVariables false

/-- how the body of a round over the ring is left -/
def ringWay (L D Bn : Nat) (W : World) (In : World → Prop) (Ix : Code → World → Prop) : Exit → Act → World → Prop
  | .normal, _, W' => (W'.heap[L]? = W.heap[L]? ∧ W'.heap[D]? = W.heap[D]? ∧ W'.heap[Bn]? = W.heap[Bn]?) ∧ In W'
  | .ret, _, W' => (W'.heap[L]? = W.heap[L]? ∧ W'.heap[D]? = W.heap[D]? ∧ W'.heap[Bn]? = W.heap[Bn]?) ∧ Ix .ret W'
  | .exit id, _, W' => (W'.heap[L]? = W.heap[L]? ∧ W'.heap[D]? = W.heap[D]? ∧ W'.heap[Bn]? = W.heap[Bn]?) ∧ Ix (.exit id) W'
  | _, _, _ => False
/-- the frame in which a round's body begins: x in the loop's variable -/
def ringAct (pt : Nat) (a : Act) (q x : Nat) : Act := { tmps := (a.tmps.setIfInBounds pt (.int .i64 (x : Int))).setIfInBounds q (.int .i64 (x : Int)), defers := [] }
theorem zip_one (t : Array Value) (pt : Nat) (v : Value) : Array.foldl (fun (t : Array Value) (x : Tmp × Value) => match x with | (p, v) => t.setIfInBounds p v) t (#[pt].zip #[v]) = t.setIfInBounds pt v := by simp
theorem upd_put {W : World} {S : Nat → Prop} {L : Nat} (hL : S L) (o : Obj) : Upd S W (W.putObj L o) := (Upd.refl S W).putObj (.inl hL) o
theorem eg49 : ∀ args w, (callFunc 86 args).run Try.prog w = .ok (.enter 86 args) w := enters_of Try.func86 (by kernel_rfl) rfl
theorem ring_law {g : Operand} {pt : Nat} {assign body : Code} {Q : Exit → Act → World → Prop} {a : Act} {W0 : World} {Bn Bs sb : Nat} (hg : a.eval g = .func (.func 86) #[] #[.pointer (some ⟨Bn, 0, none⟩), .pointer (some ⟨Bs, 0, none⟩)])
    (xs : List Nat) (hne : 0 < xs.length) (hd : xs.Nodup) (hz : ∀ i (hi : i + 1 < xs.length), xs[i + 1] ≠ 0) (hBn : Boxed W0 Bn 3 (.int .i64 (xs[0] : Nat)))
    (I : Nat → World → Prop) (Ix : Code → World → Prop)
    (hI : ∀ i W W', I i W → Upd (fun k => k = Bn ∨ W0.heap.size ≤ k) W W' → I i W')
    (hIx : ∀ c W W', Ix c W → Upd (fun k => k = Bn ∨ W0.heap.size ≤ k) W W' → Ix c W') (h0 : I 0 W0)
    (hread : ∀ i (hi : i < xs.length) W, I (i + 1) W → W.cell? ⟨Bs, 0, none⟩ = some (.pointer (some ⟨sb, 0, none⟩)) ∧ ∃ B O, Calls Try.prog 74 #[.pointer (some ⟨sb, 0, none⟩), .int .i64 (xs[i] : Nat)] W (fun e w' => e = .returned (.pointer (some ⟨B, O, none⟩)) ∧ w' = W) ∧ W.cell? ⟨B, O + 4, none⟩ = some (.int .i64 (xs[i + 1]?.getD 0 : Nat)))
    (q : Nat)
    (hassign : ∀ (L x : Nat) (W : World) (K : Act → World → Prop), K (ringAct pt a q x) W → assign.wpIn (Fence.wide.inRound L) 7 Try.prog (Exit.then K (fun _ _ _ => False)) { tmps := a.tmps.setIfInBounds pt (.int .i64 (x : Int)), defers := [] } W)
    (hbody : ∀ (L : Nat) i (hi : i < xs.length) W, L = W0.heap.size + 1 → I i W → W0.heap.size + 2 ≤ W.heap.size → (∃ r, W.heap[L]? = some (.loop r)) → Boxed W Bn 3 (.int .i64 (xs[i] : Nat)) → body.wpIn (Fence.wide.inRound L) 7 Try.prog (ringWay L W0.heap.size Bn W (I (i + 1)) Ix) (ringAct pt a q xs[i]) W)
    (hdone : ∀ W, I xs.length W → W.heap[W0.heap.size]? = some (.deferred (some [])) → Q .normal { a with defers := { target := .collected W0.heap.size, args := #[] } :: a.defers } W)
    (hstop : ∀ c W, Ix c W → W.heap[W0.heap.size]? = some (.deferred (some [])) → c.wp Try.prog Q { a with defers := { target := .collected W0.heap.size, args := #[] } :: a.defers } W) :
    (Code.rangeFunc g #[pt] assign body).wp Try.prog Q a W0 := by
  have hUL : ∀ (W : World) (o : Obj), Upd (fun k => k = Bn ∨ W0.heap.size ≤ k) W (W.putObj (W0.heap.size + 1) o) := fun W o => upd_put (.inr (by omega)) o
  have hBlt := hBn.lt
  refine (wpIn_wide (n := 9)).1 (rf_law hg eg49 (fun W => I xs.length W) Ix ?_ ?_ ?_)
  · intro r W1 hr1 hr2 hr3 hr4 hr5 hr6 hW1 hL1
    have hI1 : I 0 W1 := by
      refine hI 0 W0 W1 h0 ?_
      rw [hW1]; exact ((Upd.refl _ W0).alloc _).alloc _
    have hB1 : Boxed W1 Bn 3 (.int .i64 (xs[0] : Nat)) := by rw [hW1]; exact (hBn.alloc _).alloc _
    have hsz : W0.heap.size + 2 ≤ W1.heap.size := by rw [hW1]; simp
    have key := from1_in 8 (W0.heap.size + 1) Bn Bs sb (by omega) xs hne hd
      (fun i W => I i W ∧ LoopAt W (W0.heap.size + 1) W0.heap.size r ∧ W0.heap.size + 2 ≤ W.heap.size ∧ ∃ hi : i < xs.length, Boxed W Bn 3 (.int .i64 (xs[i] : Nat)))
      (fun i W => I (i + 1) W ∧ LoopAt W (W0.heap.size + 1) W0.heap.size r ∧ W0.heap.size + 2 ≤ W.heap.size ∧ ∃ hi : i < xs.length, Boxed W Bn 3 (.int .i64 (xs[i] : Nat)))
      (fun W => I xs.length W ∧ LoopAt W (W0.heap.size + 1) W0.heap.size r)
      (fun W => ∃ c, Ix c W ∧ LoopAt W (W0.heap.size + 1) W0.heap.size { r with state := .done, pending := some c })
      ?_ ?_ ?_ ?_ ?_ W1 ⟨hI1, hL1, hsz, hne, hB1⟩
    · refine key.mono ?_
      rintro e W3 ⟨hv, ⟨h1, h2⟩ | ⟨c, h1, h2⟩⟩
      · exact ⟨hv, .inl ⟨h1, r, h2, by rw [hr1]; simp, hr2⟩⟩
      · exact ⟨hv, .inr ⟨c, h1, _, h2, by simp, rfl⟩⟩
    · intro i hi W ⟨hi1, hl1, hs1, _, hb1⟩
      have hargs : (#[Value.int .i64 ((xs[i] : Nat) : Int)] : Array Value).size = r.params.size := by rw [hr4]; rfl
      refine YieldAt.mono (yield_law (Rn := fun W' => I (i + 1) W' ∧ LoopAt W' (W0.heap.size + 1) W0.heap.size r ∧ W0.heap.size + 2 ≤ W'.heap.size ∧ ∃ hi : i < xs.length, Boxed W' Bn 3 (.int .i64 (xs[i] : Nat))) (Rx := fun c W' => Ix c W' ∧ LoopAt W' (W0.heap.size + 1) W0.heap.size { r with state := .done, pending := some c }) hl1 hr1 hargs (ringAct pt a q xs[i]) ?_ ?_) ?_
      · intro K hK
        rw [hr5, hr4, hr3]
        rw [zip_one]
        exact hassign _ _ W K hK
      · intro W2 hW2 hl2
        have hI2 : I i W2 := by rw [hW2]; exact hI i W _ hi1 (hUL W _)
        have hb2 : Boxed W2 Bn 3 (.int .i64 (xs[i] : Nat)) := by
          rw [hW2]
          unfold Boxed
          rw [World.putObj_heap_other (by omega)]
          exact hb1
        have hs2 : W0.heap.size + 2 ≤ W2.heap.size := by rw [hW2]; simpa using hs1
        have hbd := hbody _ i hi W2 rfl hI2 hs2 ⟨_, hl2.lp⟩ hb2
        rw [← hr6] at hbd
        refine wpIn_mono hbd ?_
        intro e a3 W3 hp
        have put : ∀ q : Loop, (W3.heap[W0.heap.size + 1]? = W2.heap[W0.heap.size + 1]? ∧ W3.heap[W0.heap.size]? = W2.heap[W0.heap.size]? ∧ W3.heap[Bn]? = W2.heap[Bn]?) → LoopAt W3 (W0.heap.size + 1) W0.heap.size { r with state := .busy } ∧ LoopAt (W3.putObj (W0.heap.size + 1) (.loop q)) (W0.heap.size + 1) W0.heap.size q ∧ Boxed (W3.putObj (W0.heap.size + 1) (.loop q)) Bn 3 (.int .i64 (xs[i] : Nat)) ∧ W0.heap.size + 2 ≤ (W3.putObj (W0.heap.size + 1) (.loop q)).heap.size := by
          rintro q ⟨e1, e2, e3⟩
          have hl3 := hl2.kept e1 e2
          refine ⟨hl3, hl3.put q, ?_, ?_⟩
          · unfold Boxed
            rw [World.putObj_heap_other (by omega), e3]
            exact hb2
          · have := (Array.getElem?_eq_some_iff.1 hl3.lp).1
            simp; omega
        cases e with
        | normal =>
          obtain ⟨hk, hin⟩ := hp
          obtain ⟨p1, p2, p3, p4⟩ := put { r with state := .ready, pending := none } hk
          have er : ({ r with state := .ready, pending := none } : Loop) = r := by cases r; simp_all
          refine ⟨p1, hI _ W3 _ hin (hUL W3 _), ?_, p4, hi, p3⟩
          rw [er] at p2 ⊢
          exact p2
        | ret =>
          obtain ⟨hk, hin⟩ := hp
          obtain ⟨p1, p2, p3, p4⟩ := put { r with state := .done, pending := some .ret } hk
          exact ⟨p1, hIx _ W3 _ hin (hUL W3 _), p2⟩
        | exit id =>
          obtain ⟨hk, hin⟩ := hp
          obtain ⟨p1, p2, p3, p4⟩ := put { r with state := .done, pending := some (.exit id) } hk
          exact ⟨p1, hIx _ W3 _ hin (hUL W3 _), p2⟩
        | goto t => exact hp.elim
        | panic ch => exact hp.elim
        | outgrown => exact hp.elim
      · rintro e W' (⟨rfl, h1⟩ | ⟨rfl, c, h1⟩)
        · exact .inl ⟨rfl, h1⟩
        · exact .inr ⟨rfl, c, h1⟩
    · rintro i hi W ⟨_, _, _, _, hb⟩
      exact hb.cell
    · rintro i hi W ⟨h1, _, _, _, hb⟩
      obtain ⟨r1, r2⟩ := hread i hi W h1
      exact ⟨hb.cell, hb.frozen, r1, r2⟩
    · rintro i hi W ⟨h1, hl, hs, hi', hb⟩
      have hu : Upd (fun k => k = Bn ∨ W0.heap.size ≤ k) W (W.setCell ⟨Bn, 0, none⟩ (.int .i64 (xs[i + 1] : Nat))) := (Upd.refl _ W).setCell (.inl (.inl rfl)) _
      refine ⟨hz i hi, hI _ W _ h1 hu, hl.kept (Below.heap_setCell _ _ _ _ (by show _ ≠ Bn; omega)) (Below.heap_setCell _ _ _ _ (by show _ ≠ Bn; omega)), by simpa [World.setCell] using hs, hi, hb.set _⟩
    · rintro i W hi ⟨h1, hl, hs, hi', hb⟩
      have hu : Upd (fun k => k = Bn ∨ W0.heap.size ≤ k) W (W.setCell ⟨Bn, 0, none⟩ (.int .i64 0)) := (Upd.refl _ W).setCell (.inl (.inl rfl)) _
      rw [← hi]
      exact ⟨hI _ W _ h1 hu, hl.kept (Below.heap_setCell _ _ _ _ (by show _ ≠ Bn; omega)) (Below.heap_setCell _ _ _ _ (by show _ ≠ Bn; omega))⟩
  · intro W3 q hd hl
    exact hdone _ (hI _ W3 _ hd (hUL W3 _)) hl.defs
  · intro W3 q c hs hl
    exact wpIn_wide.2 (hstop c _ (hIx _ W3 _ hs (hUL W3 _)) hl.defs)
end Go.Proofs.Ytaebnnkhjlidiaa.W
/- Package store: seek. -/
namespace Go.Proofs.Ytaebnnkhjlidiaa.W
open Go.ChangeShapes Go.WideShapes Go.RowKit Go.Shelf
set_option linter.unusedVariables false
attribute [local go_sem] Oper.semAt_some

/-- the blocks of xs lie one behind the other in the ring, the last one last -/
def Chain (s : Sto) (xs : List Nat) : Prop := ∀ i (hi : i < xs.length), ∃ b, s.get xs[i] = some b ∧ b.next = (xs[i + 1]?.getD 0 : Nat)
theorem Lay.drew {W : World} {sb : Nat} {vr vb vf : Value} {s : Sto} (h : Lay W sb vr vb vf s) : Lay W.drew sb vr vb vf s := ⟨h.obj, h.row, h.blk, h.free⟩
theorem Lay.alloc {W : World} {sb : Nat} {vr vb vf : Value} {s : Sto} (h : Lay W sb vr vb vf s) (o : Obj) : Lay (W.alloc o) sb vr vb vf s := by
  have lt : ∀ {e : TypeId} {size : Nat} {v : Value} {n : Nat} {xs : List Value}, W.ownsRow 0 e size v n xs → ∀ k, v.ownBlock = some k → k < W.heap.size := fun h k e => (h.lt k e).2
  exact h.kept (Below.heap_alloc _ _ _ (Array.getElem?_eq_some_iff.1 h.obj).1) (fun k e => Below.heap_alloc _ _ _ (lt h.row k e)) (fun k e => Below.heap_alloc _ _ _ (lt h.blk k e)) (fun k e => Below.heap_alloc _ _ _ (lt h.free k e))
theorem lay_lt {W : World} {sb : Nat} {vr vb vf : Value} {s : Sto} (h : Lay W sb vr vb vf s) : sb < W.heap.size ∧ (∀ k, vr.ownBlock = some k → k < W.heap.size) ∧ (∀ k, vb.ownBlock = some k → k < W.heap.size) ∧ (∀ k, vf.ownBlock = some k → k < W.heap.size) :=
  ⟨(Array.getElem?_eq_some_iff.1 h.obj).1, fun k e => (h.row.lt k e).2, fun k e => (h.blk.lt k e).2, fun k e => (h.free.lt k e).2⟩
/-- what changes only behind the blocks of the beginning keeps the store -/
theorem lay_far {W Wa Wb : World} {sb : Nat} {vr vb vf : Value} {s s' : Sto} (h : Lay W sb vr vb vf s) (g : Lay Wa sb vr vb vf s') (hs : W.heap.size ≤ Wa.heap.size) {Bn n : Nat} (hu : Upd (fun k => k = Bn ∨ n ≤ k) Wa Wb) (hb : W.heap.size ≤ Bn ∧ W.heap.size ≤ n) : Lay Wb sb vr vb vf s' := by
  obtain ⟨l0, l1, l2, l3⟩ := lay_lt h
  have key : ∀ k, k < W.heap.size → Wb.heap[k]? = Wa.heap[k]? := fun k hk => hu.block k (by omega) (by rintro (rfl | g) <;> omega)
  exact g.kept (key _ l0) (fun k e => key _ (l1 k e)) (fun k e => key _ (l2 k e)) (fun k e => key _ (l3 k e))
theorem upd_far {W Wa Wb : World} {S : Nat → Prop} (g : Upd S W Wa) {Bn n : Nat} (hu : Upd (fun k => k = Bn ∨ n ≤ k) Wa Wb) (h1 : W.heap.size ≤ Bn) (h2 : W.heap.size ≤ n) : Upd S W Wb :=
  ⟨hu.os.trans g.os, hu.tape.trans g.tape, hu.output.trans g.output, Nat.le_trans g.size hu.size, fun k hk hn => (hu.block k (Nat.lt_of_lt_of_le hk g.size) (by rintro (rfl | g) <;> omega)).trans (g.block k hk hn)⟩
theorem box_far {Wa Wb : World} {B t : Nat} {v : Value} (g : Boxed Wa B t v) {Bn n : Nat} (hu : Upd (fun k => k = Bn ∨ n ≤ k) Wa Wb) (h1 : B ≠ Bn) (h2 : B < n) : Boxed Wb B t v := by
  unfold Boxed
  rw [hu.block B g.lt (by rintro (rfl | g) <;> omega)]
  exact g
theorem boxed_set {W : World} {B t : Nat} {v : Value} (h : Boxed W B t v) {sb : Nat} (hne : B ≠ sb) (q : Nat) (u : Value) : Boxed ((W.drewN q).setCell ⟨sb, 9, none⟩ u) B t v := by
  unfold Boxed at *
  rw [Below.heap_setCell _ _ _ _ hne]
  exact h
set_option maxHeartbeats 1000000 in
theorem seek_first {W : World} {sb : Nat} {vr vb vf : Value} {s : Sto} (h : Lay W sb vr vb vf s) (f : Fit s) (hd : Nat) (hh : s.hand = hd) (size : Int) (b c : Blk) (hb : s.get hd = some b) (m : Nat) (hm : b.next = m) (hc : s.get m = some c) (hroom : size ≤ roomOf s b m c) {S : Nat → Prop} (hO : S sb) :
    Calls Try.prog 77 #[.pointer (some ⟨sb, 0, none⟩), .int .i64 size] W fun e w' => e = .returned (.int .i64 hd) ∧ Upd S W w' ∧ Lay w' sb vr vb vf s := by
  refine (callsIn_wide (n := 9)).1 ?_
  refine callsIn_of_wp_marks Try.func77 rfl trivial ?_ rfl
  refine wpIn_wide.2 ?_
  simp only [Try.ntmps77, List.size_toArray, List.length_cons, List.length_nil, Nat.reduceAdd, Nat.reduceSub, Array.replicate_succ, Array.replicate_zero, List.push_toArray, List.append_toArray, List.nil_append, List.cons_append]
  go_wp2
  go_step3
  go_wp2
  go_step3
  go_wp2
  have hU1 := ((Upd.refl S W).alloc (.cells #[.pointer (some ⟨sb, 0, none⟩)] 52)).alloc (.cells #[.int .i64 size] 3)
  have hL1 := (h.alloc (.cells #[.pointer (some ⟨sb, 0, none⟩)] 52)).alloc (.cells #[.int .i64 size] 3)
  have hB1 : Boxed ((W.alloc (.cells #[.pointer (some ⟨sb, 0, none⟩)] 52)).alloc (.cells #[.int .i64 size] 3)) W.heap.size 52 (.pointer (some ⟨sb, 0, none⟩)) := (Boxed.new W _ _).alloc _
  have hB2 : Boxed ((W.alloc (.cells #[.pointer (some ⟨sb, 0, none⟩)] 52)).alloc (.cells #[.int .i64 size] 3)) (W.heap.size + 1) 3 (.int .i64 size) := by
    have := Boxed.new (W.alloc (.cells #[.pointer (some ⟨sb, 0, none⟩)] 52)) 3 (.int .i64 size)
    rwa [World.size_alloc] at this
  have hz : ((W.alloc (.cells #[.pointer (some ⟨sb, 0, none⟩)] 52)).alloc (.cells #[.int .i64 size] 3)).heap.size = W.heap.size + 2 := by simp
  generalize World.alloc (World.alloc W _) _ = W1 at *
  have c9 := hL1.cell 9
  simp [Sto.obj, hh] at c9
  have cs := hB1.cell
  refine wp_loop_rounds 1 ?_
  rw [rounds_succ]
  go_wp2
  go_region_held3 (fun w' => w'.cell? ⟨sb, 9, none⟩ = some (.int .i64 hd) ∧ w'.cell? ⟨W.heap.size, 0, none⟩ = some (.pointer (some ⟨sb, 0, none⟩))) (first | exact ⟨c9, cs⟩ | go_keep) (first | (go_at_call 83; (refine (from_c _ sb hd).mono ?_); rintro e w' ⟨rfl, hw⟩; (have hw' := hw.symm); subst hw'; clear hw))
  go_wp2
  have hU2 := ((hU1.alloc (.cells #[.pointer (some ⟨sb, 0, none⟩)] 52)).alloc (.cells #[.int .i64 hd] 3)).drew
  have hL2 := ((hL1.alloc (.cells #[.pointer (some ⟨sb, 0, none⟩)] 52)).alloc (.cells #[.int .i64 hd] 3)).drew
  have hB4 : Boxed ((W1.alloc (.cells #[.pointer (some ⟨sb, 0, none⟩)] 52)).alloc (.cells #[.int .i64 hd] 3)).drew (W.heap.size + 2 + 1) 3 (.int .i64 hd) := by
    have := Boxed.new (W1.alloc (.cells #[.pointer (some ⟨sb, 0, none⟩)] 52)) 3 (.int .i64 hd)
    rw [World.size_alloc, hz] at this
    exact this
  have hB3 : Boxed ((W1.alloc (.cells #[.pointer (some ⟨sb, 0, none⟩)] 52)).alloc (.cells #[.int .i64 hd] 3)).drew (W.heap.size + 2) 52 (.pointer (some ⟨sb, 0, none⟩)) := by
    have := (Boxed.new W1 52 (.pointer (some ⟨sb, 0, none⟩))).alloc (.cells #[.int .i64 hd] 3)
    rw [hz] at this
    exact this
  have hB1' : Boxed ((W1.alloc (.cells #[.pointer (some ⟨sb, 0, none⟩)] 52)).alloc (.cells #[.int .i64 hd] 3)).drew W.heap.size 52 (.pointer (some ⟨sb, 0, none⟩)) := (hB1.alloc _).alloc _
  have hB2' : Boxed ((W1.alloc (.cells #[.pointer (some ⟨sb, 0, none⟩)] 52)).alloc (.cells #[.int .i64 hd] 3)).drew (W.heap.size + 1) 3 (.int .i64 size) := (hB2.alloc _).alloc _
  have hz2 : ((W1.alloc (.cells #[.pointer (some ⟨sb, 0, none⟩)] 52)).alloc (.cells #[.int .i64 hd] 3)).drew.heap.size = W.heap.size + 4 := by
    show ((W1.alloc (.cells #[.pointer (some ⟨sb, 0, none⟩)] 52)).alloc (.cells #[.int .i64 hd] 3)).heap.size = _
    simp [hz]
  clear hU1 hL1 hB1 hB2 c9 cs
  generalize World.drew (World.alloc (World.alloc W1 _) _) = W2 at *
  clear hz
  have lsb := (lay_lt h).1
  have hsame : ∀ (Wx : World) (q : Nat), Lay Wx sb vr vb vf s → Lay ((Wx.drewN q).setCell ⟨sb, 9, none⟩ (.int .i64 hd)) sb vr vb vf s := fun Wx q g => (g.drewN q).store 9 _ (by simp [Sto.obj, hh]) rfl rfl rfl
  refine ring_law (Bn := W.heap.size + 2 + 1) (Bs := W.heap.size + 2) (sb := sb) rfl [hd] (by simp) (by simp) (by simp) hB4
    (fun i W' => i = 0 ∧ Upd S W W' ∧ Lay W' sb vr vb vf s ∧ Boxed W' W.heap.size 52 (.pointer (some ⟨sb, 0, none⟩)) ∧ Boxed W' (W.heap.size + 1) 3 (.int .i64 size))
    (fun c W' => c = .exit 0 ∧ Upd S W W' ∧ Lay W' sb vr vb vf s ∧ Boxed W' W.heap.size 52 (.pointer (some ⟨sb, 0, none⟩)))
    ?hI ?hIx ⟨rfl, hU2, hL2, hB1', hB2'⟩ ?hread 5 ?assign ?body ?done ?stop
  case hI =>
    rintro i Wa Wb ⟨rfl, g1, g2, g3, g4⟩ hu
    have hk := lay_far h g2 g1.size hu (by omega)
    exact ⟨rfl, upd_far g1 hu (by omega) (by omega), hk, box_far g3 hu (by omega) (by omega), box_far g4 hu (by omega) (by omega)⟩
  case hIx =>
    rintro c Wa Wb ⟨rfl, g1, g2, g3⟩ hu
    have hk := lay_far h g2 g1.size hu (by omega)
    exact ⟨rfl, upd_far g1 hu (by omega) (by omega), hk, box_far g3 hu (by omega) (by omega)⟩
  case hread =>
    rintro i hi Wa ⟨h0, _⟩
    omega
  case assign =>
    intro L x W' K hK
    gi_wp2
    exact hK
  case body =>
    rintro L i hi W' hLe ⟨rfl, hU, hL, b1, b2⟩ hs ⟨r, hr⟩ b4
    simp only [ringAct, List.setIfInBounds_toArray, List.set_cons_succ, List.set_cons_zero]
    gi_wp2
    have cs := b1.cell
    have cz := b2.cell
    have cr := fun q => room_c (hL.drewN q) f hd m b c hb hm hc
    simp only [List.getElem_cons_zero]
    have hmix : Try.prog.follows .mixedOrders = true := by kernel_rfl
    have th := hL.thaw 9
    have c9 := hL.cell 9
    simp [Sto.obj, hh] at c9
    clear b4 hh
    gi_region_with_o ((refine ⟨trivial, ?_⟩); gi_at_call 84; (refine (CallsIn.inRound L (callsIn_wide.2 (cr 1))).mono ?_); rintro e w' ⟨rfl, q, hw⟩; (have hw' := hw.symm); subst hw'; clear hw)
    all_goals gi_wp2
    all_goals exact ⟨⟨Below.heap_setCell _ _ _ _ (by show L ≠ sb; omega), Below.heap_setCell _ _ _ _ (by show W2.heap.size ≠ sb; omega), Below.heap_setCell _ _ _ _ (by show W.heap.size + 2 + 1 ≠ sb; omega)⟩, rfl, (hU.drewN _).setCell (.inl hO) _, hsame W' _ hL, boxed_set b1 (by omega) _ _⟩
  case done =>
    rintro W' ⟨h0, _⟩
    exact absurd h0 (by simp)
  case stop =>
    rintro c W' ⟨rfl, hU, hL, b1⟩ hD
    have cs := b1.cell
    have c9 := hL.cell 9
    simp [Sto.obj, hh] at c9
    go_wp2
    rw [Exit.noGoto_ret]
    refine ⟨by simp, .inl ⟨_, _, rfl, run_takeDeferred hD, ?_⟩⟩
    have ltD := (Array.getElem?_eq_some_iff.1 hD).1
    refine ⟨_, results_tmp rfl _ _ _, rfl, hU.putObj (.inr ⟨by omega, by omega⟩) _, ?_⟩
    obtain ⟨l0, l1, l2, l3⟩ := lay_lt h
    exact hL.kept (World.putObj_heap_other (by omega)) (fun k e => World.putObj_heap_other (by have := l1 k e; omega)) (fun k e => World.putObj_heap_other (by have := l2 k e; omega)) (fun k e => World.putObj_heap_other (by have := l3 k e; omega))
end Go.Proofs.Ytaebnnkhjlidiaa.W
/- Package store: link, unlink. -/
namespace Go.Proofs.Ytaebnnkhjlidiaa.W
open Go.ChangeShapes Go.WideShapes Go.RowKit Go.Shelf
set_option linter.unusedVariables false

theorem get_set_same {s : Sto} {n : Nat} {b : Blk} (h : s.get n = some b) (c : Blk) : (s.set n c).get n = some c := by
  unfold Sto.get Sto.set at *
  split
  · simp
  · rw [if_neg (by assumption)] at h
    have := (List.getElem?_eq_some_iff.1 h).1
    simp [this]
theorem get_set_ne {s : Sto} {n m : Nat} (c : Blk) (h : m ≠ n) : (s.set n c).get m = s.get m := by
  unfold Sto.get Sto.set
  by_cases hn : n = 0
  · rw [if_pos hn, if_neg (by omega), if_neg (by omega)]
  · rw [if_neg hn]
    by_cases hm : m = 0
    · rw [if_pos hm, if_pos hm]
    · rw [if_neg hm, if_neg hm]
      simp only []
      rw [List.getElem?_set_ne (by omega)]
theorem set_row (s : Sto) (n : Nat) (c : Blk) : (s.set n c).row = s.row := by unfold Sto.set; split <;> rfl
theorem set_len (s : Sto) (n : Nat) (c : Blk) : (s.set n c).blks.length = s.blks.length := by unfold Sto.set; split <;> simp
theorem set_free (s : Sto) (n : Nat) (c : Blk) : (s.set n c).free = s.free := by unfold Sto.set; split <;> rfl
theorem set_used (s : Sto) (n : Nat) (c : Blk) : (s.set n c).used = s.used := by unfold Sto.set; split <;> rfl
theorem set_hand (s : Sto) (n : Nat) (c : Blk) : (s.set n c).hand = s.hand := by unfold Sto.set; split <;> rfl
theorem set_sought (s : Sto) (n : Nat) (c : Blk) : (s.set n c).sought = s.sought := by unfold Sto.set; split <;> rfl
theorem set_set (s : Sto) (n : Nat) (b c : Blk) : (s.set n b).set n c = s.set n c := by
  unfold Sto.set
  split <;> simp
def Sto.getD (s : Sto) (n : Nat) : Blk := (s.get n).getD ⟨false, 0, 0, 0, 0⟩
theorem getD_of {s : Sto} {n : Nat} {b : Blk} (h : s.get n = some b) : s.getD n = b := by simp [Sto.getD, h]
def Sto.linked1 (s : Sto) (n bk nx : Nat) : Sto := s.set n { s.getD n with back := bk, next := nx }
def Sto.linked2 (s : Sto) (n bk nx : Nat) : Sto := (s.linked1 n bk nx).set bk { (s.linked1 n bk nx).getD bk with next := n }
/-- a block put into the ring -/
def Sto.linked (s : Sto) (n bk nx : Nat) : Sto := (s.linked2 n bk nx).set nx { (s.linked2 n bk nx).getD nx with back := n }
section
variable {W : World} {sb : Nat} {vr vb vf : Value} {s : Sto}
theorem link_c (h : Lay W sb vr vb vf s) (hlen : s.blks.length ≤ 1000000000) (n bk nx : Nat) (bn bb bx : Blk) (hn : s.get n = some bn) (hb : s.get bk = some bb) (hnx : bb.next = nx) (hx : s.get nx = some bx) (hne1 : bk ≠ n) (hne2 : nx ≠ n) {S : Nat → Prop} (hO : Own S sb vr vb vf) :
    Calls Try.prog 79 #[.pointer (some ⟨sb, 0, none⟩), .int .i64 n, .int .i64 bk] W fun e w' => e = .returned (.tuple #[]) ∧ Lay w' sb vr vb vf (s.linked n bk nx) ∧ Upd S W w' := by
  obtain ⟨Bn, On, pn⟩ := h.pt hn
  obtain ⟨Bb, Ob, pb⟩ := h.pt hb
  obtain ⟨Bx, Ox, px⟩ := h.pt hx
  have hU := Upd.refl S W
  have g1 : (s.linked1 n bk nx).get bk = some bb := by unfold Sto.linked1; rw [get_set_ne _ hne1, hb]
  have g2 : ∃ b2, (s.linked2 n bk nx).get nx = some b2 := by
    unfold Sto.linked2
    by_cases e : nx = bk
    · subst e; exact ⟨_, get_set_same g1 _⟩
    · rw [get_set_ne _ e]; unfold Sto.linked1; rw [get_set_ne _ hne2]; exact ⟨_, hx⟩
  obtain ⟨b2, g2⟩ := g2
  have l1 : (s.linked1 n bk nx).blks.length ≤ 1000000000 := by unfold Sto.linked1; rw [set_len]; exact hlen
  have l2 : (s.linked2 n bk nx).blks.length ≤ 1000000000 := by unfold Sto.linked2; rw [set_len]; exact l1
  go_enter Try.func79, Try.ntmps79
  obtain ⟨_, _, _, _, c4⟩ := bcells h hb pb
  rw [hnx] at c4
  have cb := block_c W sb vr vb vf s h bk bb hb hlen Bb Ob pb
  go_upto_region 1 with (go_at_call 74; (with_reducible refine cb.mono ?_); rintro e w' ⟨rfl, hw⟩; (have hw' := hw.symm); subst hw'; clear hw)
  clear cb c4
  have cb := block_c W sb vr vb vf s h n bn hn hlen Bn On pn
  obtain ⟨_, _, _, d3, d4⟩ := bcells h hn pn
  have t3 := h.bthaw hn pn 3
  have t4 := h.bthaw hn pn 4
  go_upto_region 2 with (go_at_call 74; (with_reducible refine cb.mono ?_); rintro e w' ⟨rfl, hw⟩; (have hw' := hw.symm); subst hw'; clear hw)
  have h1 := (h.bstore (c := { bn with back := bk }) hn pn 3 (by omega) (.int .i64 bk) rfl)
  have h2 := (h1.bstore (c := { bn with back := bk, next := nx }) (get_set_same hn _) pn 4 (by omega) (.int .i64 nx) rfl)
  have e1 : (s.set n { bn with back := bk }).set n { bn with back := bk, next := nx } = s.linked1 n bk nx := by rw [set_set]; unfold Sto.linked1; rw [getD_of hn]
  have hL1 : Lay ((W.setCell ⟨Bn, On + 3, none⟩ (.int .i64 bk)).setCell ⟨Bn, On + 4, none⟩ (.int .i64 nx)) sb vr vb vf (s.linked1 n bk nx) := by rw [← e1]; exact h2
  have hU1 := (hU.setCell (p := ⟨Bn, On + 3, none⟩) (.inl (hO.pt pn)) (.int .i64 bk)).setCell (p := ⟨Bn, On + 4, none⟩) (.inl (hO.pt pn)) (.int .i64 nx)
  clear h1 h2 e1 cb d3 d4 t3 t4
  generalize World.setCell (World.setCell W _ _) _ _ = W1 at *
  have cb := block_c W1 sb vr vb vf _ hL1 bk bb g1 l1 Bb Ob pb
  obtain ⟨_, _, _, _, d4⟩ := bcells hL1 g1 pb
  have t4 := hL1.bthaw g1 pb 4
  go_upto_region 3 with (go_at_call 74; (with_reducible refine cb.mono ?_); rintro e w' ⟨rfl, hw⟩; (have hw' := hw.symm); subst hw'; clear hw)
  have hL2 : Lay (W1.setCell ⟨Bb, Ob + 4, none⟩ (.int .i64 n)) sb vr vb vf (s.linked2 n bk nx) := hL1.bstore g1 pb 4 (by omega) (.int .i64 n) (by rw [getD_of g1]; rfl)
  have hU2 := hU1.setCell (p := ⟨Bb, Ob + 4, none⟩) (.inl (hO.pt pb)) (.int .i64 n)
  clear cb d4 t4 hL1 hU1
  generalize World.setCell W1 _ _ = W2 at *
  have cb := block_c W2 sb vr vb vf _ hL2 nx b2 g2 l2 Bx Ox px
  obtain ⟨_, _, _, d3, _⟩ := bcells hL2 g2 px
  have t3 := hL2.bthaw g2 px 3
  have hL3 : Lay (W2.setCell ⟨Bx, Ox + 3, none⟩ (.int .i64 n)) sb vr vb vf (s.linked n bk nx) := hL2.bstore g2 px 3 (by omega) (.int .i64 n) (by rw [getD_of g2]; rfl)
  have hU3 := hid (hU2.setCell (p := ⟨Bx, Ox + 3, none⟩) (.inl (hO.pt px)) (.int .i64 n))
  have HL := hid hL3
  clear hL3
  go_wp2_with (go_at_call 74; (with_reducible refine cb.mono ?_); rintro e w' ⟨rfl, hw⟩; (have hw' := hw.symm); subst hw'; clear hw)
  go_end0
  exact ⟨rfl, HL, hU3⟩
end
end Go.Proofs.Ytaebnnkhjlidiaa.W
/- Rows of bytes that are lengthened and cleared. -/
namespace Go.Proofs.Ytaebnnkhjlidiaa.W
open Go.ChangeShapes Go.WideShapes Go.RowKit Go.Shelf
set_option linter.unusedVariables false

/-- vs laid over a row from o on -/
def setL : List Nat → Nat → List Nat → List Nat
  | row, _, [] => row
  | row, o, v :: r => setL (row.set o v) (o + 1) r
theorem setL_len (row : List Nat) (o : Nat) (vs : List Nat) : (setL row o vs).length = row.length := by
  induction vs generalizing row o with
  | nil => rfl
  | cons v r ih => simp [setL, ih]
theorem setL_get (row : List Nat) (o : Nat) (vs : List Nat) (j : Nat) (h : o + vs.length ≤ row.length) : (setL row o vs)[j]? = if o ≤ j ∧ j < o + vs.length then vs[j - o]? else row[j]? := by
  induction vs generalizing row o with
  | nil => rw [if_neg (by simp)]; rfl
  | cons v r ih =>
    simp only [List.length_cons] at h
    rw [setL, ih _ _ (by simp; omega), List.getElem?_set]
    by_cases e : o = j
    · subst e
      rw [if_neg (by omega), if_pos rfl, if_pos (by omega), if_pos (by simp)]
      simp
    · by_cases g : o + 1 ≤ j ∧ j < o + 1 + r.length
      · rw [if_pos g, if_pos (by simp; omega)]
        obtain ⟨k, hk⟩ : ∃ k, j - o = k + 1 := ⟨j - o - 1, by omega⟩
        rw [hk, List.getElem?_cons_succ]
        congr 1; omega
      · rw [if_neg g, if_neg (by omega), if_neg (by simp; omega)]
section
variable {W : World} {sb : Nat} {vr vb vf : Value} {s : Sto}
theorem Lay.rstores (h : Lay W sb vr vb vf s) {g cap : Nat} (hr : vr = .slice (some ⟨g, 0, none⟩) s.row.length cap) (o : Nat) (vs : List Nat) : Lay (W.setCells g o (vs.map byteV)) sb vr vb vf { s with row := setL s.row o vs } := by
  induction vs generalizing W s o with
  | nil => exact h
  | cons v r ih =>
    have := ih (s := { s with row := s.row.set o v }) (h.rstore hr o v) (by simpa using hr) (o + 1)
    exact this
theorem Upd.setCells {S : Nat → Prop} {a b : World} (h : Upd S a b) {g : Nat} (hp : S g) (o : Nat) (vs : List Value) : Upd S a (b.setCells g o vs) := by
  induction vs generalizing b o with
  | nil => exact h
  | cons v r ih => exact ih (h.setCell (p := ⟨g, o, none⟩) (.inl hp) v) (o + 1)
theorem Upd.setCells' {S : Nat → Prop} {a b : World} (h : Upd S a b) {g : Nat} (hp : Nx S a b g) (o : Nat) (vs : List Value) : Upd S a (b.setCells g o vs) := by
  induction vs generalizing b o with
  | nil => exact h
  | cons v r ih => exact ih (h.setCell (p := ⟨g, o, none⟩) hp v) (hp.on (by simp [World.setCell])) (o + 1)
theorem setCells_size (W : World) (g o : Nat) (vs : List Value) : (W.setCells g o vs).heap.size = W.heap.size := by
  induction vs generalizing W o with
  | nil => rfl
  | cons v r ih => rw [World.setCells, ih]; simp [World.setCell]
theorem setCells_far (W : World) (g o : Nat) (vs : List Value) (k : Nat) (hk : k ≠ g) : (W.setCells g o vs).heap[k]? = W.heap[k]? := by
  induction vs generalizing W o with
  | nil => rfl
  | cons v r ih => rw [World.setCells, ih, Below.heap_setCell _ _ _ _ hk]
end
theorem zeroCells_one (z : Value) (n : Nat) (hz : z.cells = #[z]) : Builtin.zeroCells z.cells n = (List.replicate n z).toArray := by
  rw [hz]
  apply Array.ext
  · simp [Builtin.zeroCells]
  · intro i h1 h2
    simp [Builtin.zeroCells, Nat.mod_one]
/-- 'append(row, make([]byte, m)...)' -/
theorem append_zeros {P : Program} (w : World) (t tn ty e : TypeId) (i : TypeInfo) (z : Value) (kq kn : IntKind) (ht : P.underlying t = some (.slice e)) (htn : P.underlying tn = some (.int kn)) (hi : P.info? e = some i) (hz : i.zero = some z) (hs : i.size = 1) (hby : i.bytes = 1) (hzc : z.cells = #[z]) (h1 : z.oneCell' = true)
    (v : Value) (n : Nat) (xs : List Value) (hown : w.ownsRow 0 e 1 v n xs) (m : Nat) (hm : 0 < m) (hnm : n + m ≤ 10000000000000) :
    ∃ v' w', (Builtin.append_ #[t, tn] ty #[v, .int kq m]).run P w = .ok v' w' ∧ w'.ownsRow 0 e 1 v' (n + m) (xs ++ List.replicate m z) ∧ w.grownBy w' v.ownBlock ∧ (∀ k, v'.ownBlock = some k → v.ownBlock = some k ∨ (w.heap.size ≤ k ∧ k < w'.heap.size)) := by
  have hcapm : ∀ w need old, need ≤ 10000000000000 → grownCap w need old e ≤ maxLen := fun w need old h => grownCap_le_maxLen w need old e (by unfold maxLen; omega)
  obtain ⟨hlen, hrow⟩ := hown
  rcases hrow with ⟨rfl, rfl⟩ | ⟨g, cap, cur, rfl, _, hg, hc, hcm, hcs, htake⟩
  · have hx : xs = [] := by simpa using hlen
    subst hx
    have hrun := Lib.run_append_nil_zeros (P := P) w t tn ty e i z kq kn ht htn hi hz m hm (by omega) (by omega) (by rw [hby]; omega)
    refine ⟨_, _, hrun, ⟨by simp, .inr ⟨w.heap.size, _, _, by rw [Nat.zero_add], Nat.zero_le _, heap_alloc_new w.drew _, by rw [Nat.zero_add]; exact grownCap_ge _ _ _ _, hcapm _ _ _ (by omega), ?_, ?_⟩⟩, ⟨rfl, rfl, rfl, ?_, fun k hk _ => ?_⟩, ?_⟩
    · rw [zeroCells_one _ _ hzc, zeroCells_one _ _ hzc]
      have := grownCap_ge w m 0 e
      simp; omega
    · rw [zeroCells_one _ _ hzc, zeroCells_one _ _ hzc]
      simp [Nat.min_eq_left]
    · show w.heap.size ≤ (w.drew.alloc _).heap.size; simp
    · exact Below.heap_alloc w.drew _ k hk
    · intro k hk
      simp [Value.ownBlock] at hk
      subst hk
      exact .inr ⟨Nat.le_refl _, by show w.heap.size < (w.drew.alloc _).heap.size; simp⟩
  · by_cases hroom : n + m ≤ cap
    · have hst := run_storeCells_at P g (n * i.size) e (List.replicate m z) 0 cur w hg (by rw [hs]; simp; omega) (by intro u hu; rw [List.eq_of_mem_replicate hu]; exact h1)
      simp only [Nat.add_zero] at hst
      have hw : IntKind.i64.wrap (m : Int) = m := by rw [IntKind.wrap_i64]; omega
      have h48i : ¬ (281474976710656 < (m : Int) * (i.bytes : Int)) := by rw [hby]; omega
      have hneg : ¬ ((m : Int) < 0) := by omega
      have hns : ¬ (m * i.size = 0) := by rw [hs]; omega
      have hzz := zeroCells_one z m hzc
      refine ⟨.slice (some ⟨g, 0, none⟩) (n + m) cap, w.setRow g (cur.toList.take (n * i.size) ++ List.replicate m z ++ cur.toList.drop (n * i.size + (List.replicate m z).length)).toArray, ?_, ⟨?_, .inr ⟨g, cap, (cur.toList.take (n * i.size) ++ List.replicate m z ++ cur.toList.drop (n * i.size + (List.replicate m z).length)).toArray, rfl, Nat.zero_le _, ?_, hroom, hcm, ?_, ?_⟩⟩, ⟨rfl, rfl, rfl, ?_, fun k hk hne => ?_⟩, fun k hk => .inl hk⟩
      · simp [Builtin.append_, run_underlying ht, run_underlying htn, sizeOf, typeInfo, zeroValue, hi, hz, asInt, asIntOf, hw, hneg, hns, h48i, hroom, Addr.add_lit, hzz, hst]
      · simp [hlen]
      · simp [World.setRow, Array.getElem?_modify, hg]
      · simp [hs, hcs]; omega
      · rw [hs]
        simp only [Nat.mul_one] at htake ⊢
        rw [List.toList_toArray, htake]
        exact List.take_left' (by simp [hlen])
      · simp [World.setRow]
      · simp only [World.setRow, Array.getElem?_modify]
        rw [if_neg (by simpa [Value.ownBlock] using (fun e => hne (by rw [e]; rfl)))]
    · have hfc : (Builtin.firstCells i.size n (.slice (some ⟨g, 0, none⟩) n cap)).run P w.drew = .ok xs.toArray w.drew := by
        rw [hs]
        refine run_firstCells_some (P := P) w.drew 1 n ⟨g, 0, none⟩ n cap xs (by simpa using hlen) ?_
        exact World.ownsRow.cells (w := w.drew) (base := 0) (e := e) (size := 1) (n := n) (v := .slice (some ⟨g, 0, none⟩) n cap) ⟨hlen, .inr ⟨g, cap, cur, rfl, Nat.zero_le _, hg, hc, hcm, hcs, htake⟩⟩ rfl
      have hrun := Lib.run_append_grow_zeros (P := P) w t tn ty e i z kq kn ht htn hi hz (some ⟨g, 0, none⟩) n cap xs hfc m hm (by omega) (by omega) (by omega) (by rw [hby]; omega) (by rw [hby]; have := nextslicecap_le (need := n + m) (old := cap) (by omega); omega)
      have hge := grownCap_ge w (n + m) cap e
      refine ⟨_, _, hrun, ⟨by simp [hlen], .inr ⟨w.heap.size, _, _, rfl, Nat.zero_le _, heap_alloc_new w.drew _, hge, hcapm _ _ _ (by omega), ?_, ?_⟩⟩, ⟨rfl, rfl, rfl, ?_, fun k hk _ => ?_⟩, ?_⟩
      · rw [zeroCells_one _ _ hzc, zeroCells_one _ _ hzc]
        simp [hlen]; omega
      · rw [zeroCells_one _ _ hzc, zeroCells_one _ _ hzc]
        simp only [Nat.mul_one, Array.toList_append]
        exact List.take_left' (by simp [hlen])
      · show w.heap.size ≤ (w.drew.alloc _).heap.size; simp
      · exact Below.heap_alloc w.drew _ k hk
      · intro k hk
        simp [Value.ownBlock] at hk
        subst hk
        exact .inr ⟨Nat.le_refl _, by show w.heap.size < (w.drew.alloc _).heap.size; simp⟩
/-- 'append(v, x...)', and where what it answers lies -/
theorem append_at {P : Program} (w : World) (t ty e : TypeId) (i : TypeInfo) (z : Value) (size bytes : Nat) (ht : P.underlying t = some (.slice e)) (hi : P.info? e = some i) (hz : i.zero = some z) (hsize : i.size = size) (hby : i.bytes = bytes) (hzs : z.cells.size = size) (hsz : 0 < size)
    (v : Value) (n : Nat) (xs : List Value) (hown : w.ownsRow 0 e size v n xs) (a : Addr) (m c : Nat) (news : List Value) (hl : news.length = m * size) (hnews : ∀ j u, news[j]? = some u → w.cell? (a.add j) = some u) (h1 : ∀ u ∈ news, u.oneCell' = true)
    (hm : 0 < m) (hb40 : bytes ≤ 64) (hnm : n + m ≤ 1000000000000) :
    ∃ v' w', (Builtin.append_ #[t, t] ty #[v, .slice (some a) m c]).run P w = .ok v' w' ∧ w'.ownsRow 0 e size v' (n + m) (xs ++ news) ∧ w.grownBy w' v.ownBlock ∧ (∀ k, v'.ownBlock = some k → v.ownBlock = some k ∨ (w.heap.size ≤ k ∧ k < w'.heap.size)) := by
  have hbig : (n + m) * bytes ≤ 140737488355328 := by
    have := Nat.mul_le_mul hnm hb40
    omega
  obtain ⟨v', w', hrun, ho, hg, _⟩ := run_append_own w 0 t ty e i z size bytes ht hi hz hsize hby hzs hsz v n xs hown a m c news hl hnews h1 (by unfold maxLen; omega) hbig (Nat.zero_le _)
  refine ⟨v', w', hrun, ho, hg, fun k hk => ?_⟩
  have hklt := (ho.lt k hk).2
  have hown' := hown
  obtain ⟨hlen, hrow⟩ := hown
  rcases hrow with ⟨rfl, rfl⟩ | ⟨g, cap, cur, rfl, _, hgg, hc, hcm, hcs, htake⟩
  · have hx : xs = [] := by simpa using hlen
    subst hx
    obtain ⟨v2, w2, hrun2, ho2, _, _⟩ := run_append_own w w.heap.size t ty e i z size bytes ht hi hz hsize hby hzs hsz (.slice none 0 0) 0 [] (World.ownsRow_nil _ _ _ _) a m c news hl hnews h1 (by unfold maxLen; omega) hbig (Nat.le_refl _)
    rw [hrun] at hrun2
    cases hrun2
    exact .inr ⟨(ho2.lt k hk).1, hklt⟩
  · by_cases hroom : n + m ≤ cap
    · have hr := run_append_room (P := P) w t ty e i ht hi g n cap cur hgg a m c news (by rw [hsize]; exact hl) hnews h1 hroom (by
        rw [hsize, hl, hcs, ← Nat.add_mul]; exact Nat.mul_le_mul_right _ hroom)
      rw [hrun] at hr
      cases hr
      exact .inl hk
    · have hfc : (Builtin.firstCells i.size n (.slice (some ⟨g, 0, none⟩) n cap)).run P w.drew = .ok xs.toArray w.drew := by
        rw [hsize]
        exact run_firstCells_some (P := P) w.drew size n ⟨g, 0, none⟩ n cap xs hlen (World.ownsRow.cells (w := w.drew) (base := 0) (e := e) (size := size) (n := n) (v := .slice (some ⟨g, 0, none⟩) n cap) hown' rfl)
      have hr := run_append_grow_src (P := P) w t t ty e i z ht hi hz (some ⟨g, 0, none⟩) n cap xs hfc (.slice (some a) m c) m news (Src.ofSlice w ht a m c news (by rw [hsize]; exact hl) hnews h1) (by omega) (by omega) (by rw [hby]; exact growslice_fits (by omega) hbig)
      rw [hrun] at hr
      cases hr
      simp [Value.ownBlock] at hk
      subst hk
      exact .inr ⟨Nat.le_refl _, hklt⟩
theorem own_ne {W : World} {e : TypeId} {size : Nat} {v : Value} {n : Nat} {xs : List Value} (h : W.ownsRow 0 e size v n xs) {b : Nat} {c : Array Value} {t : TypeId} (hb : W.heap[b]? = some (.cells c t (0, 0))) (hne : e ≠ t) : some b ≠ v.ownBlock := by
  rcases h.2 with ⟨rfl, _⟩ | ⟨g, cap, cur, rfl, _, hg, _⟩
  · simp [Value.ownBlock]
  · simp only [Value.ownBlock]
    intro e1
    cases e1
    rw [hb] at hg
    simp at hg
    exact hne hg.2.symm
theorem own_apart {W : World} {e e' : TypeId} {size size' : Nat} {v v' : Value} {n n' : Nat} {xs xs' : List Value} (h : W.ownsRow 0 e size v n xs) (h' : W.ownsRow 0 e' size' v' n' xs') (hne : e ≠ e') : v.ownBlock = none ∨ v.ownBlock ≠ v'.ownBlock := by
  rcases h.2 with ⟨rfl, _⟩ | ⟨g, cap, cur, rfl, _, hg, _⟩
  · exact .inl rfl
  · right
    simp only [Value.ownBlock]
    exact own_ne h' hg (fun e => hne e.symm)
section
variable {W W4 : World} {sb : Nat} {vr vb vf v2 : Value} {s : Sto}
/-- the row has been appended to -/
theorem Lay.regrow_row (h : Lay W sb vr vb vf s) (hg : W.grownBy W4 vr.ownBlock) {row' : List Nat} (ho : W4.ownsRow 0 5 1 v2 row'.length (row'.map byteV)) : Lay (W4.setCell ⟨sb, 0, none⟩ v2) sb v2 vb vf { s with row := row' } := by
  have h4 : W4.heap[sb]? = some (.cells (s.obj vr vb vf).toArray 85 (0, 0)) := (hg.block sb (Array.getElem?_eq_some_iff.1 h.obj).1 (own_ne h.row h.obj (by decide))).trans h.obj
  exact ⟨heap_set h4 0 v2, own_other ho h4 (by decide) _ _, own_other (h.blk.kept hg (own_apart h.blk h.row (by decide))) h4 (by decide) _ _, own_other (h.free.kept hg (own_apart h.free h.row (by decide))) h4 (by decide) _ _⟩
/-- the table has been appended to -/
theorem Lay.regrow_blk (h : Lay W sb vr vb vf s) (hg : W.grownBy W4 vb.ownBlock) {blks' : List Blk} (ho : W4.ownsRow 0 81 5 v2 blks'.length (flat blks')) : Lay (W4.setCell ⟨sb, 6, none⟩ v2) sb vr v2 vf { s with blks := blks' } := by
  have h4 : W4.heap[sb]? = some (.cells (s.obj vr vb vf).toArray 85 (0, 0)) := (hg.block sb (Array.getElem?_eq_some_iff.1 h.obj).1 (own_ne h.blk h.obj (by decide))).trans h.obj
  exact ⟨heap_set h4 6 v2, own_other (h.row.kept hg (own_apart h.row h.blk (by decide))) h4 (by decide) _ _, own_other ho h4 (by decide) _ _, own_other (h.free.kept hg (own_apart h.free h.blk (by decide))) h4 (by decide) _ _⟩
/-- the heap of Ids has been appended to -/
theorem Lay.regrow_free (h : Lay W sb vr vb vf s) (hg : W.grownBy W4 vf.ownBlock) {free' : List Int} (ho : W4.ownsRow 0 3 1 v2 free'.length (free'.map (.int .i64))) : Lay (W4.setCell ⟨sb, 7, none⟩ v2) sb vr vb v2 { s with free := free' } := by
  have h4 : W4.heap[sb]? = some (.cells (s.obj vr vb vf).toArray 85 (0, 0)) := (hg.block sb (Array.getElem?_eq_some_iff.1 h.obj).1 (own_ne h.free h.obj (by decide))).trans h.obj
  exact ⟨heap_set h4 7 v2, own_other (h.row.kept hg (own_apart h.row h.free (by decide))) h4 (by decide) _ _, own_other (h.blk.kept hg (own_apart h.blk h.free (by decide))) h4 (by decide) _ _, own_other ho h4 (by decide) _ _⟩
end
end Go.Proofs.Ytaebnnkhjlidiaa.W
/- Package store: has, part. -/
namespace Go.Proofs.Ytaebnnkhjlidiaa.W
open Go.ChangeShapes Go.WideShapes Go.RowKit
set_option linter.unusedVariables false

/-- the extent of an Id -/
def Sto.ext (s : Sto) (id : Int) : Option Blk := if id < 0 then none else match s.blks[id.toNat]? with | some b => if b.live = true then some b else none | none => none
theorem ext_some {s : Sto} {id : Int} {b : Blk} (h : s.ext id = some b) : ∃ k : Nat, id = k ∧ s.blks[k]? = some b ∧ b.live = true := by
  unfold Sto.ext at h
  split at h
  · cases h
  · split at h
    · split at h
      · cases h
        exact ⟨id.toNat, by omega, by assumption, by assumption⟩
      · cases h
    · cases h
section
variable {W : World} {sb : Nat} {vr vb vf : Value} {s : Sto}
theorem has_c (h : Lay W sb vr vb vf s) (hlen : s.blks.length ≤ 1000000000) (id : Int) :
    Calls Try.prog 57 #[.pointer (some ⟨sb, 0, none⟩), .int .i64 id] W fun e w' => e = .returned (.bool (s.ext id).isSome) ∧ w' = W := by
  by_cases h0 : id < 0
  · have e : Hid ((s.ext id).isSome = false) := by unfold Sto.ext; rw [if_pos h0]; exact hid rfl
    go_enter Try.func57, Try.ntmps57
    go_wp2
    go_ret
    exact ⟨by rw [e.out]; rfl, rfl⟩
  · obtain ⟨k, rfl⟩ := Int.eq_ofNat_of_zero_le (by omega : 0 ≤ id)
    by_cases h1 : k < s.blks.length
    · obtain ⟨b, hb⟩ : ∃ b, s.blks[k]? = some b := ⟨_, List.getElem?_eq_getElem h1⟩
      have e : Hid ((s.ext k).isSome = b.live) := by
        unfold Sto.ext
        rw [if_neg h0]
        simp only [Int.toNat_natCast, hb]
        cases b.live <;> exact hid rfl
      have hg : s.get (k + 1) = some b := by unfold Sto.get; rw [if_neg (by omega)]; exact hb
      obtain ⟨g, cap, rfl, _⟩ := own_slice h.blk (Nat.lt_of_le_of_lt (Nat.zero_le _) h1)
      obtain ⟨b0, _, _, _, _⟩ := bcells h hg (.inr ⟨by omega, rfl, rfl⟩)
      simp only [Nat.add_sub_cancel] at b0
      have c6 := h.cell 6
      simp [Sto.obj] at c6
      have h0' : (0 : Int) ≤ k := by omega
      have h1' : (k : Int) < s.blks.length := by omega
      clear hb hg
      go_enter Try.func57, Try.ntmps57
      go_wp2
      go_ret
      exact ⟨by rw [e.out]; rfl, rfl⟩
    · have e : Hid ((s.ext k).isSome = false) := by
        unfold Sto.ext
        rw [if_neg h0]
        simp only [Int.toNat_natCast, List.getElem?_eq_none (by omega : s.blks.length ≤ k)]
        exact hid rfl
      have c6 := h.cell 6
      have h1' : ¬ (k : Int) < s.blks.length := by omega
      have hb : ∃ o cap, vb = .slice o s.blks.length cap := by
        rcases h.blk.2 with ⟨rfl, e⟩ | ⟨g, cap, cur, rfl, _⟩
        · exact ⟨_, _, by rw [e]⟩
        · exact ⟨_, _, rfl⟩
      obtain ⟨o, cap, rfl⟩ := hb
      simp [Sto.obj] at c6
      go_enter Try.func57, Try.ntmps57
      go_wp2
      go_ret
      exact ⟨by rw [e.out]; rfl, rfl⟩
/-- may so many bytes be reached? -/
def reachE (n off width : Int) : Int := if ¬ (width = 1 ∨ width = 2 ∨ width = 4 ∨ width = 8) then 50 else if off % width ≠ 0 then 32 else if off < 0 ∨ off > n - width then 31 else 0
theorem part_none (h : Lay W sb vr vb vf s) (hlen : s.blks.length ≤ 1000000000) (id off width : Int) (hx : s.ext id = none) :
    Calls Try.prog 54 #[.pointer (some ⟨sb, 0, none⟩), .int .i64 id, .int .i64 off, .int .i64 width] W fun e w' => e = .returned (.tuple #[.slice none 0 0, .int .i64 30]) ∧ w' = W := by
  have ch := has_c h hlen id
  simp only [hx, Option.isSome_none] at ch
  go_enter Try.func54, Try.ntmps54
  go_wp2_with (go_at_call 57; (with_reducible refine ch.mono ?_); rintro e w' ⟨rfl, hw⟩; (have hw' := hw.symm); subst hw'; clear hw)
  go_ret2
  exact ⟨rfl, rfl⟩
theorem part_kind (h : Lay W sb vr vb vf s) (hlen : s.blks.length ≤ 1000000000) (id off width : Int) (b : Blk) (hx : s.ext id = some b) (hw : ¬ (width = 1 ∨ width = 2 ∨ width = 4 ∨ width = 8)) :
    Calls Try.prog 54 #[.pointer (some ⟨sb, 0, none⟩), .int .i64 id, .int .i64 off, .int .i64 width] W fun e w' => e = .returned (.tuple #[.slice none 0 0, .int .i64 50]) ∧ w' = W := by
  have ch := has_c h hlen id
  simp only [hx, Option.isSome_some] at ch
  have w1 : (width != 1) = true := by simp; omega
  have w2 : (width != 2) = true := by simp; omega
  have w4 : (width != 4) = true := by simp; omega
  have w8 : (width != 8) = true := by simp; omega
  go_enter Try.func54, Try.ntmps54
  go_wp2_with (go_at_call 57; (with_reducible refine ch.mono ?_); rintro e w' ⟨rfl, hw⟩; (have hw' := hw.symm); subst hw'; clear hw)
  go_ret2
  exact ⟨rfl, rfl⟩
theorem tmod_ne (off w : Int) (h : off % w ≠ 0) : (off.tmod w != 0) = true := by
  simp
  intro h2
  exact h (Int.emod_eq_zero_of_dvd (Int.dvd_of_tmod_eq_zero h2))
theorem tmod_eq (off w : Int) (h : off % w = 0) : (off.tmod w != 0) = false := by
  simp
  exact Int.tmod_eq_zero_of_dvd (Int.dvd_of_emod_eq_zero h)
theorem part_align (h : Lay W sb vr vb vf s) (hlen : s.blks.length ≤ 1000000000) (id off width : Int) (b : Blk) (hx : s.ext id = some b) (hw : width = 1 ∨ width = 2 ∨ width = 4 ∨ width = 8) (ha : off % width ≠ 0) :
    Calls Try.prog 54 #[.pointer (some ⟨sb, 0, none⟩), .int .i64 id, .int .i64 off, .int .i64 width] W fun e w' => e = .returned (.tuple #[.slice none 0 0, .int .i64 32]) ∧ w' = W := by
  have ch := has_c h hlen id
  simp only [hx, Option.isSome_some] at ch
  have ht := tmod_ne off width ha
  rcases hw with rfl | rfl | rfl | rfl
  · omega
  all_goals (
    go_enter Try.func54, Try.ntmps54
    go_wp2_with (go_at_call 57; (with_reducible refine ch.mono ?_); rintro e w' ⟨rfl, hw⟩; (have hw' := hw.symm); subst hw'; clear hw)
    go_ret2
    exact ⟨rfl, rfl⟩)
theorem part_index (h : Lay W sb vr vb vf s) (f : Fit s) (id off width : Int) (b : Blk) (hx : s.ext id = some b) (hw : width = 1 ∨ width = 2 ∨ width = 4 ∨ width = 8) (ha : off % width = 0) (ho : off < 0 ∨ off > b.len - width) :
    Calls Try.prog 54 #[.pointer (some ⟨sb, 0, none⟩), .int .i64 id, .int .i64 off, .int .i64 width] W fun e w' => e = .returned (.tuple #[.slice none 0 0, .int .i64 31]) ∧ Below W.heap.size W w' := by
  have ch := has_c h f.len id
  simp only [hx, Option.isSome_some] at ch
  have ht := tmod_eq off width ha
  obtain ⟨k, rfl, hb, hl⟩ := ext_some hx
  have h1 := (List.getElem?_eq_some_iff.1 hb).1
  have hg : s.get (k + 1) = some b := by unfold Sto.get; rw [if_neg (by omega)]; exact hb
  obtain ⟨f1, f2, f3, f4⟩ := f.blk _ b hg
  obtain ⟨g, cap, rfl, _⟩ := own_slice h.blk (Nat.lt_of_le_of_lt (Nat.zero_le _) h1)
  obtain ⟨b0, b1, b2, b3, b4⟩ := bcells h hg (.inr ⟨by omega, rfl, rfl⟩)
  simp only [Nat.add_sub_cancel] at b0 b1 b2 b3 b4
  have c6 := h.cell 6
  simp [Sto.obj] at c6
  have h0' : (0 : Int) ≤ k := by omega
  have h1' : (k : Int) < s.blks.length := by omega
  have n1 : W.cell? ⟨g, k * 5 + 1, none⟩ = some (.int .i64 b.pos) := b1
  clear hg hb hx
  rcases hw with rfl | rfl | rfl | rfl <;> (
    go_enter Try.func54, Try.ntmps54
    go_wp2_with (go_at_call 57; (with_reducible refine ch.mono ?_); rintro e w' ⟨rfl, hw⟩; (have hw' := hw.symm); subst hw'; clear hw)
    all_goals (
      go_ret2
      exact ⟨rfl, (Below.refl _ _).alloc (Nat.le_refl _) _⟩))
theorem ret_part {a : Option Addr} {n m c : Nat} {v : Value} (h : n = m) : Ending.returned (.tuple #[.slice a n c, v]) = .returned (.tuple #[.slice a m c, v]) := by rw [h]
theorem part_ok (h : Lay W sb vr vb vf s) (f : Fit s) (id width : Int) (b : Blk) (hx : s.ext id = some b) (hw : width = 1 ∨ width = 2 ∨ width = 4 ∨ width = 8) (o p : Nat) (hp : b.pos = p) (ha : (o : Int) % width = 0) (ho : o + width ≤ b.len) (g cap : Nat) (hr : vr = .slice (some ⟨g, 0, none⟩) s.row.length cap) (hcap : s.row.length ≤ cap) (hin : b.pos + b.len ≤ s.row.length) :
    Calls Try.prog 54 #[.pointer (some ⟨sb, 0, none⟩), .int .i64 id, .int .i64 o, .int .i64 width] W fun e w' => e = .returned (.tuple #[.slice (some ⟨g, p + o, none⟩) width.toNat (cap - (p + o)), .int .i64 0]) ∧ Below W.heap.size W w' := by
  subst hr
  have ch := has_c h f.len id
  simp only [hx, Option.isSome_some] at ch
  have ht := tmod_eq o width ha
  obtain ⟨k, rfl, hb, hl⟩ := ext_some hx
  have h1 := (List.getElem?_eq_some_iff.1 hb).1
  have hg : s.get (k + 1) = some b := by unfold Sto.get; rw [if_neg (by omega)]; exact hb
  obtain ⟨f1, f2, f3, f4⟩ := f.blk _ b hg
  obtain ⟨g2, cap2, rfl, _⟩ := own_slice h.blk (Nat.lt_of_le_of_lt (Nat.zero_le _) h1)
  obtain ⟨b0, b1, b2, b3, b4⟩ := bcells h hg (.inr ⟨by omega, rfl, rfl⟩)
  simp only [Nat.add_sub_cancel] at b0 b1 b2 b3 b4
  have c6 := h.cell 6
  have c0 := h.cell 0
  simp [Sto.obj] at c6 c0
  have h0' : (0 : Int) ≤ k := by omega
  have h1' : (k : Int) < s.blks.length := by omega
  have fr := f.row
  rw [hp] at b1 f1 f2 hin
  have lt : sb < W.heap.size := (Array.getElem?_eq_some_iff.1 h.obj).1
  have ca : ∀ o, (W.alloc o).cell? ⟨sb, 0, none⟩ = some (.slice (some ⟨g, 0, none⟩) s.row.length cap) := fun o => (World.cell?_of_block (Below.heap_alloc W o sb lt)).trans c0
  have hlo : (0 : Int) ≤ p + o := by omega
  have hhi : (p : Int) + o + width ≤ cap := by omega
  clear hg hb hx
  rcases hw with rfl | rfl | rfl | rfl <;> (
    go_enter Try.func54, Try.ntmps54
    go_wp2_with (go_at_call 57; (with_reducible refine ch.mono ?_); rintro e w' ⟨rfl, hw⟩; (have hw' := hw.symm); subst hw'; clear hw)
    go_ret2
    refine ⟨?_, (Below.refl _ _).alloc (Nat.le_refl _) _⟩
    first | exact ret_part (show p + o + 1 - (p + o) = Int.toNat 1 by omega) | exact ret_part (show p + o + 2 - (p + o) = Int.toNat 2 by omega) | exact ret_part (show p + o + 4 - (p + o) = Int.toNat 4 by omega) | exact ret_part (show p + o + 8 - (p + o) = Int.toNat 8 by omega))
end
end Go.Proofs.Ytaebnnkhjlidiaa.W
/- Package store: Load, Save. -/
namespace Go.Proofs.Ytaebnnkhjlidiaa.W
open Go.ChangeShapes Go.WideShapes Go.RowKit
set_option linter.unusedVariables false

/-- the number of a row of bytes, the lowest first -/
def leN : List Nat → Nat
  | [] => 0
  | b :: r => b + 256 * leN r
theorem leN_snoc (l : List Nat) (b : Nat) : leN (l ++ [b]) = leN l + b * 256 ^ l.length := by
  induction l with
  | nil => simp [leN]
  | cons c r ih =>
    simp only [List.cons_append, leN, ih, List.length_cons, Nat.pow_succ]
    have e : b * (256 ^ r.length * 256) = 256 * (b * 256 ^ r.length) := by rw [← Nat.mul_assoc, Nat.mul_comm]
    rw [e, Nat.mul_add]; omega
theorem leN_lt (l : List Nat) (h : ∀ n ∈ l, n < 256) : leN l < 256 ^ l.length := by
  induction l with
  | nil => simp [leN]
  | cons c r ih =>
    have h1 := h c (by simp)
    have h2 := ih (fun n hn => h n (by simp [hn]))
    simp only [leN, List.length_cons, Nat.pow_succ]
    omega
theorem pow8' (k : Nat) : 2 ^ (8 * k) = 256 ^ k := by rw [Nat.pow_mul]
theorem pow_le8 (k : Nat) (h : k ≤ 8) : 256 ^ k ≤ 18446744073709551616 := by
  have := Nat.pow_le_pow_right (n := 256) (by decide) h
  have e : 256 ^ 8 = 18446744073709551616 := by decide
  omega
theorem or_byte8 (k b e : Nat) (hk : k < 8) (he : e < 256 ^ k) (hb : b < 256) :
    bits .or .u64 (e : Int) (IntKind.u64.wrap (IntKind.u64.wrap (b : Int) * 2 ^ (8 * k))) = ((e + b * 256 ^ k : Nat) : Int) := by
  have e1 : IntKind.u64.wrap (b : Int) = b := by rw [IntKind.wrap_u64]; omega
  have hp := pow_le8 (k + 1) (by omega)
  rw [Nat.pow_succ] at hp
  have hbk : b * 256 ^ k ≤ 255 * 256 ^ k := Nat.mul_le_mul_right _ (by omega)
  have e2 : (b : Int) * 2 ^ (8 * k) = ((b * 256 ^ k : Nat) : Int) := by rw [← pow8']; simp
  have e3 : IntKind.u64.wrap ((b * 256 ^ k : Nat) : Int) = ((b * 256 ^ k : Nat) : Int) := by rw [IntKind.wrap_u64]; exact Int.emod_eq_of_lt (Int.natCast_nonneg _) (by omega)
  rw [e1, e2, e3, u64_or_nat _ _ (by omega) (by omega)]
  have j2 : e ||| b * 256 ^ k = b * 256 ^ k + e := by
    rw [Nat.or_comm, ← pow8']
    exact nat_join (8 * k) _ _ (Nat.mul_mod_left _ _) (by rw [pow8']; exact he)
  rw [j2]
  omega
theorem ret_un {a b : Nat} {v : Value} (h : a = b) : Ending.returned (.tuple #[.int .u64 (a : Int), v]) = .returned (.tuple #[.int .u64 (b : Int), v]) := by rw [h]
section
variable {W : World} {sb : Nat} {vr vb vf : Value} {s : Sto}
/-- the bytes of an extent from one on -/
def seg (row : List Nat) (at' n : Nat) : List Nat := (row.drop at').take n
theorem seg_len (row : List Nat) (a n : Nat) (h : a + n ≤ row.length) : (seg row a n).length = n := by simp [seg]; omega
theorem seg_get (row : List Nat) (a n k : Nat) (hk : k < n) : (seg row a n)[k]? = row[a + k]? := by simp [seg, hk]
theorem rcell (h : Lay W sb vr vb vf s) {g cap : Nat} (hr : vr = .slice (some ⟨g, 0, none⟩) s.row.length cap) (j : Nat) (hj : j < s.row.length) : W.cell? ⟨g, j, none⟩ = some (.int .u8 (s.row[j] : Nat)) := by
  subst hr
  rw [h.row.cellAt j (by omega)]
  simp [byteV, hj]
set_option maxHeartbeats 1000000 in
theorem load_core (g p n : Nat) (seg : List Nat) (hn : seg.length = n) (h8 : n ≤ 8) (hb : ∀ x ∈ seg, x < 256) (a0 a1 a2 a3 : Value) (c : Nat)
    (hc : ∀ W' : World, Below W.heap.size W W' → ∀ k (hk : k < seg.length), W'.cell? ⟨g, p + k, none⟩ = some (.int .u8 (seg[k] : Nat)))
    (cp : Calls Try.prog 54 #[a0, a1, a2, a3] W fun e w' => e = .returned (.tuple #[.slice (some ⟨g, p, none⟩) n c, .int .i64 0]) ∧ Below W.heap.size W w') :
    Calls Try.prog 50 #[a0, a1, a2, a3] W fun e w' => e = .returned (.tuple #[.int .u64 (leN seg), .int .i64 0]) ∧ Below W.heap.size W w' := by
  go_enter Try.func50, Try.ntmps50
  go_wp2_with (go_at_call 54; (with_reducible refine cp.mono ?_); rintro e w' ⟨rfl, hB⟩)
  have hc' := hc w' hB
  clear hc cp
  go_loop [12, 28] (fun x i => ∃ k : Nat, k ≤ n ∧ i = .int .i64 k ∧ x = .int .u64 (leN (seg.take k))) (fun _ i => n - (intOf i).toNat)
  case atStart => exact ⟨0, Nat.zero_le _, rfl, by simp [leN]⟩
  case round =>
    obtain ⟨k, hk, rfl, rfl⟩ := hrel
    by_cases hlt : k < n
    · have hs : k < seg.length := by omega
      have hx := hc' k hs
      have st : Hid (bits .or .u64 (leN (seg.take k) : Int) (IntKind.u64.wrap (IntKind.u64.wrap ((seg[k] : Nat) : Int) * 2 ^ (8 * k))) = (leN (seg.take (k + 1)) : Int)) := by
        have l1 : (seg.take k).length = k := by simp; omega
        rw [List.take_succ_eq_append_getElem hs, leN_snoc, l1]
        refine hid (or_byte8 k _ _ (by omega) ?_ (hb _ (List.getElem_mem _)))
        have := leN_lt (seg.take k) (fun x hx => hb x (List.mem_of_mem_take hx))
        rwa [l1] at this
      clear hc'
      generalize seg[k] = y at *
      go_wp2
      go_round
      case rel => exact ⟨k + 1, hlt, by go_num, by rw [← st.out]⟩
      case measure => simp [intOf]; omega
    · have he : seg.take k = seg := List.take_of_length_le (by omega)
      rw [he]
      clear hc' he
      go_wp2
      go_ret2
      exact ⟨rfl, hB⟩
theorem load_ok (h : Lay W sb vr vb vf s) (f : Fit s) (id : Int) (wd : Nat) (b : Blk) (hx : s.ext id = some b) (hw : wd = 1 ∨ wd = 2 ∨ wd = 4 ∨ wd = 8) (o p : Nat) (hp : b.pos = p) (ha : (o : Int) % wd = 0) (ho : o + (wd : Int) ≤ b.len) (hin : b.pos + b.len ≤ s.row.length) :
    Calls Try.prog 50 #[.pointer (some ⟨sb, 0, none⟩), .int .i64 id, .int .i64 o, .int .i64 wd] W fun e w' => e = .returned (.tuple #[.int .u64 (leN (seg s.row (p + o) wd)), .int .i64 0]) ∧ Below W.heap.size W w' := by
  obtain ⟨g, cap, hr, hcap⟩ := own_slice h.row (by omega)
  have cp := part_ok h f id wd b hx (by omega) o p hp ha ho g cap hr hcap hin
  simp only [Int.toNat_natCast] at cp
  have hl := seg_len s.row (p + o) wd (by omega)
  refine load_core g (p + o) wd _ hl (by omega) (fun x hx => f.byte x (List.mem_of_mem_drop (List.mem_of_mem_take hx))) _ _ _ _ _ ?_ cp
  intro W' hB k hk
  have hr' := rcell h hr (p + o + k) (by omega)
  have lt : g < W.heap.size := by
    have := (h.row.lt g (by rw [hr]; rfl)).2
    exact this
  rw [hB.cell (by exact lt), hr']
  congr 2
  simp [seg]
theorem load_err (e0 : Int) (he : (e0 != 0) = true) (a0 a1 a2 a3 v : Value)
    (cp : Calls Try.prog 54 #[a0, a1, a2, a3] W fun e w' => e = .returned (.tuple #[v, .int .i64 e0]) ∧ Below W.heap.size W w') :
    Calls Try.prog 50 #[a0, a1, a2, a3] W fun e w' => e = .returned (.tuple #[.int .u64 0, .int .i64 e0]) ∧ Below W.heap.size W w' := by
  go_enter Try.func50, Try.ntmps50
  go_wp2_with (go_at_call 54; (with_reducible refine cp.mono ?_); rintro e w' ⟨rfl, hB⟩)
  go_ret2
  exact ⟨rfl, hB⟩
/-- a row with the lowest k bytes of a number written from one on -/
def saved (row : List Nat) (p x : Nat) : Nat → List Nat
  | 0 => row
  | k + 1 => (saved row p x k).set (p + k) (x / 256 ^ k % 256)
theorem saved_len (row : List Nat) (p x k : Nat) : (saved row p x k).length = row.length := by
  induction k with
  | zero => rfl
  | succ k ih => simp [saved, ih]
theorem saved_get (row : List Nat) (p x k j : Nat) (h : p + k ≤ row.length) : (saved row p x k)[j]? = if p ≤ j ∧ j < p + k then some (x / 256 ^ (j - p) % 256) else row[j]? := by
  induction k with
  | zero => rw [if_neg (by omega)]; rfl
  | succ k ih =>
    simp only [saved, List.getElem?_set, saved_len]
    by_cases e : p + k = j
    · subst e
      rw [if_pos rfl, if_pos (by omega), if_pos (by omega)]
      congr 2; congr 2; omega
    · rw [if_neg e, ih (by omega)]
      by_cases g : p ≤ j ∧ j < p + k
      · rw [if_pos g, if_pos (by omega)]
      · rw [if_neg g, if_neg (by omega)]
theorem save_err (e0 : Int) (a0 a1 a2 a3 a4 : Value)
    (cp : Calls Try.prog 54 #[a0, a1, a2, a3] W fun e w' => e = .returned (.tuple #[.slice none 0 0, .int .i64 e0]) ∧ Below W.heap.size W w') :
    Calls Try.prog 32 #[a0, a1, a2, a3, a4] W fun e w' => e = .returned (.int .i64 e0) ∧ Below W.heap.size W w' := by
  go_enter Try.func32, Try.ntmps32
  go_wp2_with (go_at_call 54; (with_reducible refine cp.mono ?_); rintro e w' ⟨rfl, hB⟩)
  refine wp_loop_rounds 1 ?_
  rw [rounds_succ]
  go_wp2
  go_ret
  exact ⟨rfl, hB⟩
theorem byte_of (x k : Nat) : (x : Int) / 2 ^ (8 * k) % 256 = ((x / 256 ^ k % 256 : Nat) : Int) := by
  rw [← pow8']
  simp
set_option maxHeartbeats 1000000 in
theorem save_core (g p n x : Nat) (hx : x < 18446744073709551616) (cap : Nat) (hr : vr = .slice (some ⟨g, 0, none⟩) s.row.length cap) (hin : p + n ≤ s.row.length) (h8 : n ≤ 8) (hlen : s.row.length ≤ 1000000000000) (a0 a1 a2 a3 : Value) (c : Nat) (h : Lay W sb vr vb vf s)
    (cp : Calls Try.prog 54 #[a0, a1, a2, a3] W fun e w' => e = .returned (.tuple #[.slice (some ⟨g, p, none⟩) n c, .int .i64 0]) ∧ Below W.heap.size W w') :
    Calls Try.prog 32 #[a0, a1, a2, a3, .int .u64 x] W fun e w' => e = .returned (.int .i64 0) ∧ Lay w' sb vr vb vf { s with row := saved s.row p x n } ∧ Upd (fun k => k = g) W w' := by
  go_enter Try.func32, Try.ntmps32
  go_wp2_with (go_at_call 54; (with_reducible refine cp.mono ?_); rintro e w' ⟨rfl, hB⟩)
  have hU : Upd (fun k => k = g) W w' := Upd.of_below hB
  have hL : Lay w' sb vr vb vf s := by
    have lt : ∀ {e : TypeId} {size : Nat} {v : Value} {n : Nat} {xs : List Value}, W.ownsRow 0 e size v n xs → ∀ k, v.ownBlock = some k → k < W.heap.size := fun h k e => (h.lt k e).2
    exact h.kept (hB.block _ (Array.getElem?_eq_some_iff.1 h.obj).1) (fun k e => hB.block _ (lt h.row k e)) (fun k e => hB.block _ (lt h.blk k e)) (fun k e => hB.block _ (lt h.free k e))
  clear hB cp h
  go_loopw [24] (fun i wr => ∃ k : Nat, k ≤ n ∧ i = .int .i64 k ∧ Lay wr sb vr vb vf { s with row := saved s.row p x k } ∧ Upd (fun k => k = g) W wr) (fun i _ => n - (intOf i).toNat)
  case atStart => exact ⟨0, Nat.zero_le _, rfl, hL, hU⟩
  case round =>
    obtain ⟨k, hk, rfl, hLr, hUr⟩ := hrel
    by_cases hlt : k < n
    · have hj : p + k < (saved s.row p x k).length := by rw [saved_len]; omega
      have hx1 := rcell hLr (g := g) (cap := cap) (by rw [hr]; simp [saved_len]) (p + k) hj
      have hx2 : wr.frozen? ⟨g, p + k, none⟩ = false := by
        have := hLr.row
        rw [hr] at this
        simp only [saved_len] at this
        exact this.frozenAt _
      have hst := hLr.rstore (g := g) (cap := cap) (by rw [hr]; simp [saved_len]) (p + k) (x / 256 ^ k % 256)
      have hsu := hUr.setCell (p := ⟨g, p + k, none⟩) (.inl rfl) (byteV (x / 256 ^ k % 256))
      have hby := hid (byte_of x k)
      generalize (saved s.row p x k)[p + k] = y at *
      clear hLr hUr hU hL
      go_wp2
      go_roundw
      case rel => exact ⟨k + 1, hlt, by go_num, by rw [hby.out]; exact hst, by rw [hby.out]; exact hsu⟩
      case measure => simp [intOf]; omega
    · have e : k = n := by omega
      rw [e] at hLr
      have HL := hid hLr
      have HU := hid hUr
      clear hLr hUr e hL hU
      go_wp2
      go_ret
      exact ⟨rfl, HL, HU⟩
theorem save_ok (h : Lay W sb vr vb vf s) (f : Fit s) (id : Int) (wd x : Nat) (hx64 : x < 18446744073709551616) (b : Blk) (hx : s.ext id = some b) (hw : wd = 1 ∨ wd = 2 ∨ wd = 4 ∨ wd = 8) (o p : Nat) (hp : b.pos = p) (ha : (o : Int) % wd = 0) (ho : o + (wd : Int) ≤ b.len) (hin : b.pos + b.len ≤ s.row.length) {S : Nat → Prop} (hS : Own S sb vr vb vf) :
    Calls Try.prog 32 #[.pointer (some ⟨sb, 0, none⟩), .int .i64 id, .int .i64 o, .int .i64 wd, .int .u64 x] W fun e w' => e = .returned (.int .i64 0) ∧ Lay w' sb vr vb vf { s with row := saved s.row (p + o) x wd } ∧ Upd S W w' := by
  obtain ⟨g, cap, hr, hcap⟩ := own_slice h.row (by omega)
  have cp := part_ok h f id wd b hx (by omega) o p hp ha ho g cap hr hcap hin
  simp only [Int.toNat_natCast] at cp
  refine (save_core g (p + o) wd x hx64 cap hr (by omega) (by omega) f.row _ _ _ _ _ h cp).mono ?_
  rintro e w' ⟨rfl, h1, h2⟩
  exact ⟨rfl, h1, h2.mono (by rintro k rfl; exact hS.row _ (by rw [hr]; rfl))⟩
end
end Go.Proofs.Ytaebnnkhjlidiaa.W
