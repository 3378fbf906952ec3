import Derived.Test.YtgmimmdojkoppaaGreatDoorProg
import Derived.WalkKit
import Derived.WalkLawsBesides
import Derived.Laws.BitsAllLaws
import Derived.KernelRfl
import Derived.Deep.QuietTactic
import Derived.BigQuiet
import Derived.Below
import Derived.Laws.OwnMore
import Derived.RangeFuncNested
import Derived.RangeFuncBound
import Derived.RangeFuncCalls
import Derived.RangeFuncLeaves
import Derived.Shelf.Abstract
import Derived.Shelf.RegionOpen
import Derived.OwnWalkIn
import Derived.TacticsInMore
import Derived.LoopNIn
import Derived.LoopIn
/- Package store in memory: a store's block, its row of bytes, its table of blocks, its heap of free Ids; what a call may change. -/
namespace Go.Proofs.YtgmimmdojkoppaaGreatDoor.W
open Go.ChangeShapes Go.WideShapes Go.RowKit

theorem hid {p : Prop} (h : p) : Hid p := h

/-- a block of the table -/
structure Blk where
  live : Bool
  pos : Int
  len : Int
  back : Int
  next : Int
def Blk.cells (b : Blk) : List Value := [.bool b.live, .int .i64 b.pos, .int .i64 b.len, .int .i64 b.back, .int .i64 b.next]
theorem Blk.cells_len (b : Blk) : b.cells.length = 5 := rfl
def flat (l : List Blk) : List Value := l.flatMap Blk.cells
theorem flat_cons (b : Blk) (r : List Blk) : flat (b :: r) = b.cells ++ flat r := by simp [flat]
theorem flat_append (a b : List Blk) : flat (a ++ b) = flat a ++ flat b := by simp [flat]
theorem flat_get (l : List Blk) (i j : Nat) (b : Blk) (h : l[i]? = some b) (hj : j < 5) : (flat l)[i * 5 + j]? = b.cells[j]? := by
  induction l generalizing i with
  | nil => simp at h
  | cons c r ih =>
    rw [flat_cons]
    cases i with
    | zero =>
      simp at h
      subst h
      rw [List.getElem?_append_left (by rw [Blk.cells_len]; omega)]
      simp
    | succ k =>
      simp at h
      rw [List.getElem?_append_right (by rw [Blk.cells_len]; omega), Blk.cells_len, ← ih k h]
      congr 1; omega
theorem flat_set (l : List Blk) (i j : Nat) (b c : Blk) (u : Value) (h : l[i]? = some b) (hj : j < 5) (hc : c.cells = b.cells.set j u) : (flat l).set (i * 5 + j) u = flat (l.set i c) := by
  induction l generalizing i with
  | nil => simp at h
  | cons d r ih =>
    rw [flat_cons]
    cases i with
    | zero =>
      simp at h
      subst h
      rw [List.set_append_left _ _ (by rw [Blk.cells_len]; omega), List.set_cons_zero, flat_cons, hc]
      simp
    | succ k =>
      simp at h
      rw [List.set_append_right _ _ (by rw [Blk.cells_len]; omega), List.set_cons_succ, flat_cons, ← ih k h, Blk.cells_len]
      congr 2; omega

/-- a store -/
structure Sto where
  row : List Nat
  head : Blk
  blks : List Blk
  free : List Int
  used : Int
  hand : Int
  sought : Bool

/-- a byte in memory -/
def byteV (n : Nat) : Value := .int .u8 n
/-- what a store's own block holds -/
def Sto.obj (vr vb vf : Value) (s : Sto) : List Value := [vr, .bool s.head.live, .int .i64 s.head.pos, .int .i64 s.head.len, .int .i64 s.head.back, .int .i64 s.head.next, vb, vf, .int .i64 s.used, .int .i64 s.hand, .bool s.sought]

/-- a store as it lies in memory -/
structure Lay (W : World) (sb : Nat) (vr vb vf : Value) (s : Sto) : Prop where
  obj : W.heap[sb]? = some (.cells (s.obj vr vb vf).toArray 73 (0, 0))
  row : W.ownsRow 0 5 1 vr s.row.length (s.row.map byteV)
  blk : W.ownsRow 0 68 5 vb s.blks.length (flat s.blks)
  free : W.ownsRow 0 3 1 vf s.free.length (s.free.map (.int .i64))

/-- what a call may change: of what was there, the blocks of S -/
structure Upd (S : Nat → Prop) (W W' : World) : Prop where
  os : W'.os = W.os
  tape : W'.tape = W.tape
  output : W'.output = W.output
  size : W.heap.size ≤ W'.heap.size
  block : ∀ k, k < W.heap.size → ¬ S k → W'.heap[k]? = W.heap[k]?
/-- S, and what was laid since -/
def Nx (S : Nat → Prop) (W W' : World) : Nat → Prop := fun k => S k ∨ (W.heap.size ≤ k ∧ k < W'.heap.size)

theorem Nx.on {S : Nat → Prop} {a b c : World} {k : Nat} (h : Nx S a b k) (hs : b.heap.size ≤ c.heap.size) : Nx S a c k := h.imp id (fun g => ⟨g.1, Nat.lt_of_lt_of_le g.2 hs⟩)
theorem Upd.refl (S : Nat → Prop) (W : World) : Upd S W W := ⟨rfl, rfl, rfl, Nat.le_refl _, fun _ _ _ => rfl⟩
theorem Upd.trans {S : Nat → Prop} {a b c : World} (h : Upd S a b) (k : Upd (Nx S a b) b c) : Upd S a c :=
  ⟨k.os.trans h.os, k.tape.trans h.tape, k.output.trans h.output, Nat.le_trans h.size k.size, fun i hi hn => (k.block i (Nat.lt_of_lt_of_le hi h.size) (fun g => g.elim hn (fun g => by omega))).trans (h.block i hi hn)⟩
theorem Upd.mono {S T : Nat → Prop} {a b : World} (h : Upd S a b) (hs : ∀ k, S k → T k) : Upd T a b := ⟨h.os, h.tape, h.output, h.size, fun k hk hn => h.block k hk (fun g => hn (hs k g))⟩
theorem Upd.trans' {S : Nat → Prop} {a b c : World} (h : Upd S a b) (k : Upd S b c) : Upd S a c := h.trans (k.mono fun _ g => .inl g)
theorem Upd.below {S : Nat → Prop} {a b : World} (h : Upd S a b) {n : Nat} (hn : n ≤ a.heap.size) (hs : ∀ k, S k → n ≤ k) : Below n a b :=
  ⟨h.os, h.tape, h.output, h.size, fun k hk => h.block k (by omega) (fun g => by have := hs k g; omega)⟩
theorem Upd.of_below {S : Nat → Prop} {a b : World} (h : Below a.heap.size a b) : Upd S a b := ⟨h.os, h.tape, h.output, h.size, fun k hk _ => h.block k hk⟩
theorem Upd.drewN {S : Nat → Prop} {a b : World} (h : Upd S a b) (n : Nat) : Upd S a (b.drewN n) := ⟨h.os, h.tape, h.output, h.size, h.block⟩
theorem Upd.drew {S : Nat → Prop} {a b : World} (h : Upd S a b) : Upd S a b.drew := ⟨h.os, h.tape, h.output, h.size, h.block⟩
theorem Upd.alloc {S : Nat → Prop} {a b : World} (h : Upd S a b) (o : Obj) : Upd S a (b.alloc o) :=
  h.trans' ⟨rfl, rfl, rfl, by simp, fun k hk _ => Below.heap_alloc _ _ _ hk⟩
theorem Upd.setCell {S : Nat → Prop} {a b : World} (h : Upd S a b) {p : Addr} (hp : Nx S a b p.block) (u : Value) : Upd S a (b.setCell p u) :=
  h.trans ⟨rfl, rfl, rfl, by simp [World.setCell], fun k _ hn => Below.heap_setCell _ _ _ _ (by rintro rfl; exact hn hp)⟩
theorem Upd.grown {S : Nat → Prop} {a b c : World} {row : Option Nat} (h : Upd S a b) (hg : b.grownBy c row) (hr : ∀ k, row = some k → Nx S a b k) : Upd S a c :=
  h.trans ⟨hg.os, hg.tape, hg.output, hg.size, fun k hk hn => hg.block k hk (by rintro e; exact hn (hr k e.symm))⟩

/-- the blocks of a store are S's -/
structure Own (S : Nat → Prop) (sb : Nat) (vr vb vf : Value) : Prop where
  sb : S sb
  row : ∀ k, vr.ownBlock = some k → S k
  blk : ∀ k, vb.ownBlock = some k → S k
  free : ∀ k, vf.ownBlock = some k → S k
theorem Own.mono {S T : Nat → Prop} {sb : Nat} {vr vb vf : Value} (h : Own S sb vr vb vf) (g : ∀ k, S k → T k) : Own T sb vr vb vf :=
  ⟨g _ h.sb, fun k e => g _ (h.row k e), fun k e => g _ (h.blk k e), fun k e => g _ (h.free k e)⟩
theorem Own.on {S : Nat → Prop} {a b c : World} {sb : Nat} {vr vb vf : Value} (h : Own (Nx S a b) sb vr vb vf) (hs : b.heap.size ≤ c.heap.size) : Own (Nx S a c) sb vr vb vf := h.mono (fun _ g => g.on hs)
/-- a store lies in W, in blocks of S -/
def At (W : World) (S : Nat → Prop) (sb : Nat) (s : Sto) : Prop := ∃ vr vb vf, Lay W sb vr vb vf s ∧ Own S sb vr vb vf

section
variable {W : World} {sb : Nat} {vr vb vf : Value} {s : Sto}
theorem Lay.cell (h : Lay W sb vr vb vf s) (j : Nat) : W.cell? ⟨sb, j, none⟩ = (s.obj vr vb vf)[j]? := by
  rw [cell_of_row W sb j _ _ (0, 0) h.obj]; simp
theorem Lay.thaw (h : Lay W sb vr vb vf s) (j : Nat) : W.frozen? ⟨sb, j, none⟩ = false := by
  simp [World.frozen?, h.obj]
/-- whatever keeps the store's blocks keeps the store -/
theorem Lay.kept (h : Lay W sb vr vb vf s) {W' : World} (h0 : W'.heap[sb]? = W.heap[sb]?) (h1 : ∀ k, vr.ownBlock = some k → W'.heap[k]? = W.heap[k]?) (h2 : ∀ k, vb.ownBlock = some k → W'.heap[k]? = W.heap[k]?) (h3 : ∀ k, vf.ownBlock = some k → W'.heap[k]? = W.heap[k]?) : Lay W' sb vr vb vf s := by
  have key : ∀ {e : TypeId} {size : Nat} {v : Value} {n : Nat} {xs : List Value}, W.ownsRow 0 e size v n xs → (∀ k, v.ownBlock = some k → W'.heap[k]? = W.heap[k]?) → W'.ownsRow 0 e size v n xs := by
    intro e size v n xs ho hk
    refine ⟨ho.1, ?_⟩
    rcases ho.2 with hn | ⟨g, cap, cur, rfl, hb, hgg, rest⟩
    · exact .inl hn
    · exact .inr ⟨g, cap, cur, rfl, hb, (hk g rfl).trans hgg, rest⟩
  exact ⟨h0.trans h.obj, key h.row h1, key h.blk h2, key h.free h3⟩
end
theorem At.upd {W W' : World} {S T : Nat → Prop} {sb : Nat} {s : Sto} (h : At W S sb s) (hu : Upd T W W') (hd : ∀ k, S k → ¬ T k) : At W' S sb s := by
  obtain ⟨vr, vb, vf, hl, ho⟩ := h
  have lt : ∀ {e : TypeId} {size : Nat} {v : Value} {n : Nat} {xs : List Value}, W.ownsRow 0 e size v n xs → ∀ k, v.ownBlock = some k → k < W.heap.size := fun h k e => (h.lt k e).2
  exact ⟨vr, vb, vf, hl.kept (hu.block _ (Array.getElem?_eq_some_iff.1 hl.obj).1 (hd _ ho.sb)) (fun k e => hu.block _ (lt hl.row k e) (hd _ (ho.row k e))) (fun k e => hu.block _ (lt hl.blk k e) (hd _ (ho.blk k e))) (fun k e => hu.block _ (lt hl.free k e) (hd _ (ho.free k e))), ho⟩
theorem At.below {W W' : World} {S : Nat → Prop} {sb : Nat} {s : Sto} (h : At W S sb s) (hu : Below W.heap.size W W') : At W' S sb s := h.upd (T := fun _ => False) (Upd.of_below hu) (fun _ _ g => g)

/-- the block of a number: 0 is the front -/
def Sto.get (s : Sto) (n : Nat) : Option Blk := if n = 0 then some s.head else s.blks[n - 1]?
def Sto.set (s : Sto) (n : Nat) (b : Blk) : Sto := if n = 0 then { s with head := b } else { s with blks := s.blks.set (n - 1) b }
/-- where the block of a number lies -/
def Pt (sb : Nat) (vb : Value) (n B O : Nat) : Prop := (n = 0 ∧ B = sb ∧ O = 1) ∨ (n ≠ 0 ∧ vb.ownBlock = some B ∧ O = (n - 1) * 5)
section
variable {W : World} {sb : Nat} {vr vb vf : Value} {s : Sto}
theorem own_slice {e : TypeId} {size : Nat} {v : Value} {n : Nat} {xs : List Value} (h : W.ownsRow 0 e size v n xs) (hn : 0 < n) : ∃ g cap, v = .slice (some ⟨g, 0, none⟩) n cap ∧ n ≤ cap := by
  rcases h.2 with ⟨_, rfl⟩ | ⟨g, cap, cur, rfl, _, _, hc, _⟩
  · omega
  · exact ⟨g, cap, rfl, hc⟩
theorem Lay.pt (h : Lay W sb vr vb vf s) {n : Nat} {b : Blk} (hb : s.get n = some b) : ∃ B O, Pt sb vb n B O := by
  unfold Sto.get at hb
  split at hb
  · exact ⟨sb, 1, .inl ⟨by assumption, rfl, rfl⟩⟩
  · obtain ⟨g, cap, e, _⟩ := own_slice h.blk (Nat.lt_of_le_of_lt (Nat.zero_le _) (List.getElem?_eq_some_iff.1 hb).1)
    exact ⟨g, (n - 1) * 5, .inr ⟨by assumption, by rw [e]; rfl, rfl⟩⟩
theorem Lay.bcell (h : Lay W sb vr vb vf s) {n B O : Nat} {b : Blk} (hb : s.get n = some b) (hp : Pt sb vb n B O) (j : Nat) (hj : j < 5) : W.cell? ⟨B, O + j, none⟩ = b.cells[j]? := by
  unfold Sto.get at hb
  rcases hp with ⟨rfl, rfl, rfl⟩ | ⟨hn, e, rfl⟩
  · simp at hb
    subst hb
    rw [h.cell]
    match j, hj with
    | 0, _ | 1, _ | 2, _ | 3, _ | 4, _ => rfl
  · rw [if_neg hn] at hb
    have hi := (List.getElem?_eq_some_iff.1 hb).1
    obtain ⟨g, cap, rfl, _⟩ := own_slice h.blk (Nat.lt_of_le_of_lt (Nat.zero_le _) hi)
    simp [Value.ownBlock] at e
    subst e
    rw [h.blk.cellAt _ (by omega), flat_get _ _ _ _ hb hj]
theorem Lay.bthaw (h : Lay W sb vr vb vf s) {n B O : Nat} {b : Blk} (hb : s.get n = some b) (hp : Pt sb vb n B O) (j : Nat) : W.frozen? ⟨B, O + j, none⟩ = false := by
  unfold Sto.get at hb
  rcases hp with ⟨rfl, rfl, rfl⟩ | ⟨hn, e, rfl⟩
  · exact h.thaw _
  · rw [if_neg hn] at hb
    obtain ⟨g, cap, rfl, _⟩ := own_slice h.blk (Nat.lt_of_le_of_lt (Nat.zero_le _) (List.getElem?_eq_some_iff.1 hb).1)
    simp [Value.ownBlock] at e
    subst e
    exact h.blk.frozenAt _
/-- two rows of different elements are different blocks -/
theorem own_other {e : TypeId} {size : Nat} {v : Value} {n : Nat} {xs : List Value} (h : W.ownsRow 0 e size v n xs) {b : Nat} {c : Array Value} {t : TypeId} (hb : W.heap[b]? = some (.cells c t (0, 0))) (hne : e ≠ t) (j : Nat) (u : Value) : (W.setCell ⟨b, j, none⟩ u).ownsRow 0 e size v n xs := by
  refine ⟨h.1, ?_⟩
  rcases h.2 with hn | ⟨g, cap, cur, rfl, h0, hgg, rest⟩
  · exact .inl hn
  · refine .inr ⟨g, cap, cur, rfl, h0, ?_, rest⟩
    rw [Below.heap_setCell _ _ _ _ (by rintro rfl; rw [hgg] at hb; simp at hb; exact hne hb.2)]
    exact hgg
theorem heap_set {b : Nat} {c : List Value} {t : TypeId} (hb : W.heap[b]? = some (.cells c.toArray t (0, 0))) (j : Nat) (u : Value) : (W.setCell ⟨b, j, none⟩ u).heap[b]? = some (.cells (c.set j u).toArray t (0, 0)) := by
  simp only [World.setCell, Array.getElem?_modify]
  rw [hb]
  simp
/-- a cell of the store's own block is written -/
theorem Lay.store (h : Lay W sb vr vb vf s) {s' : Sto} (j : Nat) (u : Value) (ho : s'.obj vr vb vf = (s.obj vr vb vf).set j u) (h1 : s'.row = s.row) (h2 : s'.blks = s.blks) (h3 : s'.free = s.free) : Lay (W.setCell ⟨sb, j, none⟩ u) sb vr vb vf s' := by
  refine ⟨?_, ?_, ?_, ?_⟩
  · rw [ho]; exact heap_set h.obj j u
  · rw [h1]; exact own_other h.row h.obj (by decide) j u
  · rw [h2]; exact own_other h.blk h.obj (by decide) j u
  · rw [h3]; exact own_other h.free h.obj (by decide) j u
/-- a block's cell is written -/
theorem Lay.bstore (h : Lay W sb vr vb vf s) {n B O : Nat} {b c : Blk} (hb : s.get n = some b) (hp : Pt sb vb n B O) (j : Nat) (hj : j < 5) (u : Value) (hc : c.cells = b.cells.set j u) : Lay (W.setCell ⟨B, O + j, none⟩ u) sb vr vb vf (s.set n c) := by
  unfold Sto.get at hb
  rcases hp with ⟨rfl, rfl, rfl⟩ | ⟨hn, e, rfl⟩
  · simp at hb
    subst hb
    refine h.store _ _ ?_ rfl rfl rfl
    simp only [Blk.cells] at hc
    match j, hj with
    | 0, _ | 1, _ | 2, _ | 3, _ | 4, _ => simp at hc; simp [Sto.obj, Sto.set, hc]
  · rw [if_neg hn] at hb
    have hi := (List.getElem?_eq_some_iff.1 hb).1
    obtain ⟨g, cap, rfl, _⟩ := own_slice h.blk (Nat.lt_of_le_of_lt (Nat.zero_le _) hi)
    simp [Value.ownBlock] at e
    subst e
    have hst := h.blk.stored ((n - 1) * 5 + j) u
    rw [flat_set _ _ _ _ _ _ hb hj hc] at hst
    obtain ⟨_, hq⟩ := h.blk
    rcases hq with ⟨hq, _⟩ | ⟨g', cap', cur, hq, _, hgg, _⟩
    · cases hq
    · simp at hq
      obtain ⟨rfl, rfl⟩ := hq
      refine ⟨?_, ?_, ?_, ?_⟩
      · rw [Below.heap_setCell _ _ _ _ (by rintro rfl; have := h.obj; rw [hgg] at this; simp at this)]
        simp only [Sto.set, if_neg hn]
        exact h.obj
      · simp only [Sto.set, if_neg hn]
        exact own_other h.row hgg (by decide) _ u
      · simp only [Sto.set, if_neg hn, List.length_set]
        exact hst.1
      · simp only [Sto.set, if_neg hn]
        exact own_other h.free hgg (by decide) _ u
/-- a byte of the row is written -/
theorem Lay.rstore (h : Lay W sb vr vb vf s) {g cap : Nat} (hr : vr = .slice (some ⟨g, 0, none⟩) s.row.length cap) (j : Nat) (n : Nat) : Lay (W.setCell ⟨g, j, none⟩ (byteV n)) sb vr vb vf { s with row := s.row.set j n } := by
  subst hr
  have hst := (h.row.stored j (byteV n)).1
  obtain ⟨_, hq⟩ := h.row
  rcases hq with ⟨hq, _⟩ | ⟨g', cap', cur, hq, _, hgg, _⟩
  · cases hq
  · simp at hq
    obtain ⟨rfl, rfl⟩ := hq
    refine ⟨?_, ?_, own_other h.blk hgg (by decide) _ _, own_other h.free hgg (by decide) _ _⟩
    · rw [Below.heap_setCell _ _ _ _ (by rintro rfl; have := h.obj; rw [hgg] at this; simp at this)]
      exact h.obj
    · show World.ownsRow _ 0 5 1 (.slice (some ⟨g, 0, none⟩) s.row.length cap) (s.row.set j n).length ((s.row.set j n).map byteV)
      rw [List.length_set, List.map_set]
      exact hst
theorem Own.pt {S : Nat → Prop} (h : Own S sb vr vb vf) {n B O : Nat} (hp : Pt sb vb n B O) : S B := by
  rcases hp with ⟨_, rfl, _⟩ | ⟨_, e, _⟩
  · exact h.sb
  · exact h.blk _ e
end
end Go.Proofs.YtgmimmdojkoppaaGreatDoor.W
/- Plain facts on numbers and rows of bytes that package word turns on: no Go in sight. -/
namespace Go.Proofs.YtgmimmdojkoppaaGreatDoor.W

/-- is a pattern a NaN? -/
def nanB (n : Int) : Bool := decide (9218868437227405312 < n % 9223372036854775808)

/-- may a load be a string's? -/
def txtOk (l : Int) : Bool := decide (l / 1099511627776 ≤ 5 ∧ l % 1099511627776 < 2 ^ (8 * (l / 1099511627776)).toNat)

/-- a pattern's class -/
def cls (n : Int) : Int :=
  if nanB n = false ∨ n = 9221120237041090560 then 1
  else if n < 18444492273895866368 then 7
  else if n = 18444492273895866368 then 3
  else if n = 18444492273895866369 ∨ n = 18444492273895866370 then 4
  else if n < 18444773748872577024 then 7
  else if n < 18445055223849287680 then 2
  else if n < 18445336698825998336 then (if txtOk (n % 281474976710656) = true then 5 else 7)
  else if n < 18445618173802708992 then 6
  else 7

/-- the class of a load behind the tag 0 -/
def plainCls (l : Int) : Int := if l = 0 then 3 else if l = 1 ∨ l = 2 then 4 else 7
def textCls (l : Int) : Int := if txtOk l = true then 5 else 7

theorem and_shift (x m i : Nat) : x &&& (m * 2 ^ i) = ((x / 2 ^ i) &&& m) * 2 ^ i := by
  apply Nat.eq_of_testBit_eq
  intro j
  rw [Nat.testBit_and, Nat.testBit_mul_two_pow, Nat.testBit_mul_two_pow, Nat.testBit_and, Nat.testBit_div_two_pow]
  by_cases h : i ≤ j
  · have e : i + (j - i) = j := by omega
    have e' : j - i + i = j := by omega
    simp [h, e']
  · simp [h]

theorem nan_eq (n : Int) (h0 : 0 ≤ n) (h1 : n < 18446744073709551616) : bits .andNot .u64 n 9223372036854775808 = n % 9223372036854775808 := by
  rw [u64_andNot n 9223372036854775808 h0 h1 (by decide) (by decide)]
  have e : (18446744073709551615 - (9223372036854775808 : Int).toNat) = 2 ^ 63 - 1 := by decide
  rw [e, Nat.and_two_pow_sub_one_eq_mod]
  omega
theorem tagged_eq (n : Int) (h0 : 0 ≤ n) (h1 : n < 18446744073709551616) : (bits .and .u64 n 18444492273895866368 == 18444492273895866368) = decide (18444492273895866368 ≤ n) := by
  rw [u64_and n 18444492273895866368 h0 h1 (by decide) (by decide)]
  have e : (18444492273895866368 : Int).toNat = 8191 * 2 ^ 51 := by decide
  rw [e, and_shift, show (8191 : Nat) = 2 ^ 13 - 1 from by decide, Nat.and_two_pow_sub_one_eq_mod]
  rw [Bool.eq_iff_iff]
  simp only [beq_iff_eq, decide_eq_true_eq]
  omega
theorem tag_eq (n : Int) (h0 : 0 ≤ n) (h1 : n < 18446744073709551616) : bits .and .u64 (n / 281474976710656) 7 = n / 281474976710656 % 8 := by
  rw [u64_and _ 7 (by omega) (by omega) (by decide) (by decide)]
  have e : (7 : Int).toNat = 2 ^ 3 - 1 := by decide
  rw [e, Nat.and_two_pow_sub_one_eq_mod]
  omega
theorem load_eq (n : Int) (h0 : 0 ≤ n) (h1 : n < 18446744073709551616) : bits .and .u64 n 281474976710655 = n % 281474976710656 := by
  rw [u64_and n _ h0 h1 (by decide) (by decide)]
  have e : (281474976710655 : Int).toNat = 2 ^ 48 - 1 := by decide
  rw [e, Nat.and_two_pow_sub_one_eq_mod]
  omega
theorem room_eq (n : Int) (h0 : 0 ≤ n) (h1 : n < 18446744073709551616) : bits .and .u64 n 1099511627775 = n % 1099511627776 := by
  rw [u64_and n _ h0 h1 (by decide) (by decide)]
  have e : (1099511627775 : Int).toNat = 2 ^ 40 - 1 := by decide
  rw [e, Nat.and_two_pow_sub_one_eq_mod]
  omega
theorem join_eq (t l : Int) (h0 : 0 ≤ t) (h1 : t < 8) (h2 : 0 ≤ l) (h3 : l < 281474976710656) :
    bits .or .u64 (bits .or .u64 18444492273895866368 (IntKind.u64.wrap (t * 281474976710656))) l = 18444492273895866368 + t * 281474976710656 + l := by
  have e0 : IntKind.u64.wrap (t * 281474976710656) = t * 281474976710656 := by rw [IntKind.wrap_u64]; omega
  rw [e0, u64_or 18444492273895866368 _ (by decide) (by decide) (by omega) (by omega)]
  have e1 : (18444492273895866368 : Int).toNat ||| (t * 281474976710656).toNat = 18444492273895866368 + (t * 281474976710656).toNat :=
    nat_join 51 18444492273895866368 _ (by decide) (by omega)
  rw [e1, u64_or _ l (by omega) (by omega) h2 (by omega)]
  have e2 : ((18444492273895866368 + (t * 281474976710656).toNat : Nat) : Int).toNat ||| l.toNat = (18444492273895866368 + (t * 281474976710656).toNat) + l.toNat :=
    nat_join 48 _ _ (by omega) (by omega)
  rw [e2]
  omega

/-! ### rows of bytes as numbers, the first byte lowest -/
def encN : List UInt8 → Nat
  | [] => 0
  | b :: r => b.toNat + 256 * encN r
def decN : Nat → Nat → List UInt8
  | 0, _ => []
  | k + 1, x => UInt8.ofNat (x % 256) :: decN k (x / 256)

theorem encN_lt (l : List UInt8) : encN l < 256 ^ l.length := by
  induction l with
  | nil => simp [encN]
  | cons b r ih =>
    have := b.toNat_lt
    simp only [encN, List.length_cons, Nat.pow_succ]
    omega
theorem encN_snoc (l : List UInt8) (b : UInt8) : encN (l ++ [b]) = encN l + b.toNat * 256 ^ l.length := by
  induction l with
  | nil => simp [encN]
  | cons c r ih =>
    simp only [List.cons_append, encN, ih, List.length_cons, Nat.pow_succ]
    rw [Nat.mul_add, ← Nat.mul_assoc, Nat.add_assoc]
    congr 2
    rw [Nat.mul_comm 256, Nat.mul_assoc, Nat.mul_comm 256]
theorem decN_encN (l : List UInt8) : decN l.length (encN l) = l := by
  induction l with
  | nil => rfl
  | cons b r ih =>
    have hb := b.toNat_lt
    simp only [List.length_cons, decN, encN]
    have e1 : (b.toNat + 256 * encN r) % 256 = b.toNat := by omega
    have e2 : (b.toNat + 256 * encN r) / 256 = encN r := by omega
    rw [e1, e2, ih]
    simp
/-! ### what the functions of package word answer -/
def smallB (i : Int) : Bool := decide (-140737488355328 ≤ i ∧ i ≤ 140737488355327)
def fltW (n : Int) : Int := if nanB n = true then 9221120237041090560 else n
def intW (i : Int) : Int := if smallB i = true then 18444773748872577024 + i % 281474976710656 else 0
def toInt (n : Int) : Int := if cls n = 2 then (if n % 281474976710656 < 140737488355328 then n % 281474976710656 else n % 281474976710656 - 281474976710656) else 0
def boolW (b : Bool) : Int := if b = true then 18444492273895866370 else 18444492273895866369
def toBool (n : Int) : Bool := if cls n = 4 then n % 281474976710656 == 2 else false
def hdlW (h : Int) : Int := if h < 281474976710656 then 18445336698825998336 + h else 0
def toHdl (n : Int) : Int := if cls n = 6 then n % 281474976710656 else 0
def txtW (s : ByteArray) : Int := if s.size ≤ 5 then 18445055223849287680 + s.size * 1099511627776 + encN s.data.toList else 0
def toTxt (n : Int) : ByteArray := if cls n = 5 then ⟨(decN (n % 281474976710656 / 1099511627776).toNat (n % 1099511627776).toNat).toArray⟩ else ByteArray.empty
end Go.Proofs.YtgmimmdojkoppaaGreatDoor.W
/- Package store: the small functions that only read. -/
namespace Go.Proofs.YtgmimmdojkoppaaGreatDoor.W
open Go.ChangeShapes Go.WideShapes Go.RowKit

/-- a length, rounded up -/
def up8 (n : Int) : Int := (n + 7) / 8 * 8
theorem and_not7 (n : Int) (h0 : 0 ≤ n) (h1 : n ≤ 2000000000) : bits .andNot .i64 n 7 = n / 8 * 8 := by
  obtain ⟨a, rfl⟩ := Int.eq_ofNat_of_zero_le h0
  show IntKind.i64.wrap ((BitVec.ofInt 64 (a : Int) &&& ~~~BitVec.ofInt 64 7).toNat : Int) = _
  have h7 : (BitVec.ofInt 64 7).toNat = 7 := by decide
  rw [BitVec.toNat_and, BitVec.toNat_not, ofInt_u64 a (by omega), h7]
  have e : (2 ^ 64 - 1 - 7 : Nat) = (2 ^ 61 - 1) * 2 ^ 3 := by decide
  rw [e, and_shift, Nat.and_two_pow_sub_one_eq_mod, Nat.mod_eq_of_lt (by omega), IntKind.wrap_i64]
  omega
theorem roundUp_c (n : Int) (w : World) (h0 : 0 ≤ n) (h1 : n ≤ 1000000000) : Calls Tryz.prog 218 #[.int .i64 n] w fun e w' => e = .returned (.int .i64 (up8 n)) ∧ w' = w := by
  have e : bits .andNot .i64 (n + 7) 7 = up8 n := and_not7 (n + 7) (by omega) (by omega)
  go_enter Tryz.func218, Tryz.ntmps218
  go_wp2
  go_ret
  exact ⟨by rw [← e]; rfl, rfl⟩
theorem number_c (n : Int) (w : World) (h0 : 0 ≤ n) (h1 : n ≤ 1000000000) : Calls Tryz.prog 217 #[.int .i64 n] w fun e w' => e = .returned (.int .i64 (n + 1)) ∧ w' = w := by
  go_enter Tryz.func217, Tryz.ntmps217
  go_wp2
  go_ret
  exact ⟨rfl, rfl⟩
theorem block_c (W : World) (sb : Nat) (vr vb vf : Value) (s : Sto) (h : Lay W sb vr vb vf s) (n : Nat) (b : Blk) (hb : s.get n = some b) (hlen : s.blks.length ≤ 1000000000) (B O : Nat) (hp : Pt sb vb n B O) :
    Calls Tryz.prog 263 #[.pointer (some ⟨sb, 0, none⟩), .int .i64 n] W fun e w' => e = .returned (.pointer (some ⟨B, O, none⟩)) ∧ w' = W := by
  rcases hp with ⟨rfl, rfl, rfl⟩ | ⟨hn, e, rfl⟩
  · go_enter Tryz.func263, Tryz.ntmps263
    go_wp2
    go_ret
    exact ⟨rfl, rfl⟩
  · unfold Sto.get at hb
    rw [if_neg hn] at hb
    have hi := (List.getElem?_eq_some_iff.1 hb).1
    obtain ⟨g, cap, rfl, _⟩ := own_slice h.blk (Nat.lt_of_le_of_lt (Nat.zero_le _) hi)
    simp [Value.ownBlock] at e
    subst e
    have c6 := h.cell 6
    simp [Sto.obj] at c6
    have hn0 : ((n : Int) == 0) = false := by simp; exact hn
    obtain ⟨k, rfl⟩ : ∃ k, n = k + 1 := ⟨n - 1, by omega⟩
    simp only [Nat.add_sub_cancel] at hi ⊢
    clear hb hn
    have h0 : (0 : Int) ≤ k := by omega
    have h1 : (k : Int) < s.blks.length := by omega
    go_enter Tryz.func263, Tryz.ntmps263
    go_wp2
    go_ret
    exact ⟨rfl, rfl⟩
theorem end_c (W : World) (B O : Nat) (p l : Int) (hp : W.cell? ⟨B, O + 1, none⟩ = some (.int .i64 p)) (hl : W.cell? ⟨B, O + 2, none⟩ = some (.int .i64 l)) (h0 : 0 ≤ l) (h1 : l ≤ 100000000) (h2 : 0 ≤ p) (h3 : p ≤ 10000000000000) :
    Calls Tryz.prog 267 #[.pointer (some ⟨B, O, none⟩)] W fun e w' => e = .returned (.int .i64 (p + up8 l)) ∧ ∃ m, w' = W.drewN m := by
  have e0 : 0 ≤ up8 l := by unfold up8; omega
  have e1 : up8 l ≤ 1000000000 := by unfold up8; omega
  go_enter Tryz.func267, Tryz.ntmps267
  go_wp2
  go_quiet ((go_at_call 218; exact Calls.quiet_of_same (roundUp_c _ _ h0 (by omega))))
  go_wp2
  go_ret
  exact ⟨rfl, _, rfl⟩
end Go.Proofs.YtgmimmdojkoppaaGreatDoor.W
/- Package store: room, has, part, and the faces that only read. -/
namespace Go.Proofs.YtgmimmdojkoppaaGreatDoor.W
open Go.ChangeShapes Go.WideShapes Go.RowKit

/-- numbers that no sum of which wraps round -/
structure Fit (s : Sto) : Prop where
  len : s.blks.length ≤ 1000000000
  row : s.row.length ≤ 1000000000000
  byte : ∀ n ∈ s.row, n < 256
  used0 : 0 ≤ s.used
  used1 : s.used ≤ 1000000000000
  blk : ∀ n b, s.get n = some b → 0 ≤ b.pos ∧ b.pos ≤ 1000000000000 ∧ 0 ≤ b.len ∧ b.len ≤ 100000000
def Blk.stop (b : Blk) : Int := b.pos + up8 b.len
/-- how many bytes are free behind a block -/
def roomOf (s : Sto) (b : Blk) (m : Nat) (c : Blk) : Int := if m = 0 then 2 * s.used + 64 - b.stop else c.pos - b.stop
section
variable {W : World} {sb : Nat} {vr vb vf : Value} {s : Sto}
theorem Lay.drewN (h : Lay W sb vr vb vf s) (m : Nat) : Lay (W.drewN m) sb vr vb vf s := ⟨h.obj, h.row, h.blk, h.free⟩
theorem bcells (h : Lay W sb vr vb vf s) {n B O : Nat} {b : Blk} (hb : s.get n = some b) (hp : Pt sb vb n B O) : W.cell? ⟨B, O, none⟩ = some (.bool b.live) ∧ W.cell? ⟨B, O + 1, none⟩ = some (.int .i64 b.pos) ∧ W.cell? ⟨B, O + 2, none⟩ = some (.int .i64 b.len) ∧ W.cell? ⟨B, O + 3, none⟩ = some (.int .i64 b.back) ∧ W.cell? ⟨B, O + 4, none⟩ = some (.int .i64 b.next) :=
  ⟨h.bcell hb hp 0 (by omega), h.bcell hb hp 1 (by omega), h.bcell hb hp 2 (by omega), h.bcell hb hp 3 (by omega), h.bcell hb hp 4 (by omega)⟩
theorem stop_le (f : Fit s) {n : Nat} {b : Blk} (hb : s.get n = some b) : 0 ≤ b.stop ∧ b.stop ≤ 1000200000000 := by
  obtain ⟨h1, h2, h3, h4⟩ := f.blk n b hb
  unfold Blk.stop up8
  omega
theorem room_c (h : Lay W sb vr vb vf s) (f : Fit s) (n m : Nat) (b c : Blk) (hb : s.get n = some b) (hm : b.next = m) (hc : s.get m = some c) :
    Calls Tryz.prog 295 #[.pointer (some ⟨sb, 0, none⟩), .int .i64 n] W fun e w' => e = .returned (.int .i64 (roomOf s b m c)) ∧ ∃ q, w' = W.drewN q := by
  obtain ⟨B, O, hp⟩ := h.pt hb
  obtain ⟨B2, O2, hp2⟩ := h.pt hc
  obtain ⟨_, b1, b2, _, b4⟩ := bcells h hb hp
  obtain ⟨_, d1, _, _, _⟩ := bcells h hc hp2
  obtain ⟨f1, f2, f3, f4⟩ := f.blk n b hb
  obtain ⟨g1, g2, g3, g4⟩ := f.blk m c hc
  have u0 := f.used0
  have u1 := f.used1
  have c8 := h.cell 8
  simp [Sto.obj] at c8
  obtain ⟨st0, st1⟩ := stop_le f hb
  have hst : Hid (b.pos + up8 b.len = b.stop) := rfl
  rw [hm] at b4
  have cb := fun k => block_c (W.drewN k) sb vr vb vf s (h.drewN k) n b hb f.len B O hp
  have cb2 := fun k => block_c (W.drewN k) sb vr vb vf s (h.drewN k) m c hc f.len B2 O2 hp2
  have ce : ∀ k, Calls Tryz.prog 267 #[.pointer (some ⟨B, O, none⟩)] (W.drewN k) fun e w' => e = .returned (.int .i64 b.stop) ∧ ∃ m, w' = (W.drewN k).drewN m := fun k => end_c (W.drewN k) B O b.pos b.len b1 b2 f3 f4 f1 (by omega)
  have cb0 := cb 0
  rw [World.drewN_zero] at cb0
  have R : Hid (roomOf s b m c = if m = 0 then 2 * s.used + 64 - b.stop else c.pos - b.stop) := rfl
  by_cases hm0 : m = 0
  · have R0 : Hid (roomOf s b m c = 2 * s.used + 64 - b.stop) := by rw [Hid.out R, if_pos hm0]; exact hid rfl
    have hmb : ((m : Int) == 0) = true := by simp [hm0]
    clear R hp2 d1 cb2 cb hb hc
    go_enter Tryz.func295, Tryz.ntmps295
    go_wp2_with (go_at_call 263; (with_reducible refine cb0.mono ?_); rintro e w' ⟨rfl, hw⟩; (have hw' := hw.symm); subst hw'; clear hw)
    go_quiet ((go_at_call 267; exact Calls.quiet_of (ce _)))
    go_wp2
    go_ret
    exact ⟨by rw [R0.out]; rfl, _, rfl⟩
  · have R0 : Hid (roomOf s b m c = c.pos - b.stop) := by rw [Hid.out R, if_neg hm0]; exact hid rfl
    have hmb : ((m : Int) == 0) = false := by simp [hm0]
    clear R hb hc hm0
    go_enter Tryz.func295, Tryz.ntmps295
    go_wp2_with (go_at_call 263; (with_reducible refine cb0.mono ?_); rintro e w' ⟨rfl, hw⟩; (have hw' := hw.symm); subst hw'; clear hw)
    go_quiet (first | (go_at_call 267; exact Calls.quiet_of (ce _)) | (go_at_call 263; exact Calls.quiet_of_same (cb2 _)))
    go_wp2
    go_ret
    exact ⟨by rw [R0.out]; rfl, _, rfl⟩
end
end Go.Proofs.YtgmimmdojkoppaaGreatDoor.W
/- A range over a function, for whatever iterator: the loop's record, a round, the statement. -/
namespace Go.Proofs.YtgmimmdojkoppaaGreatDoor.W
open Go.ChangeShapes Go.WideShapes Go.RowKit Go.Shelf
set_option linter.unusedVariables false

/-- the record of a loop over a function, and the block for its rounds' deferred calls -/
structure LoopAt (W : World) (L D : Nat) (r : Loop) : Prop where
  lp : W.heap[L]? = some (.loop r)
  defs : W.heap[D]? = some (.deferred (some []))
theorem LoopAt.kept {W W' : World} {L D : Nat} {r : Loop} (h : LoopAt W L D r) (h1 : W'.heap[L]? = W.heap[L]?) (h2 : W'.heap[D]? = W.heap[D]?) : LoopAt W' L D r := ⟨h1.trans h.lp, h2.trans h.defs⟩
theorem LoopAt.put {W : World} {L D : Nat} {r : Loop} (h : LoopAt W L D r) (q : Loop) : LoopAt (W.putObj L (.loop q)) L D q := by
  refine ⟨World.putObj_heap_same (Array.getElem?_eq_some_iff.1 h.lp).1, ?_⟩
  rw [World.putObj_heap_other (by rintro rfl; have := h.lp; rw [h.defs] at this; cases this)]
  exact h.defs
theorem Upd.putObj {S : Nat → Prop} {a b : World} (h : Upd S a b) {L : Nat} (hp : Nx S a b L) (o : Obj) : Upd S a (b.putObj L o) :=
  h.trans ⟨rfl, rfl, rfl, by simp, fun k _ hn => World.putObj_heap_other (by rintro rfl; exact hn hp)⟩

/-- how a round's body is left -/
def bodyWay (L D : Nat) (r : Loop) (Rn : World → Prop) (Rx : Code → World → Prop) : Exit → Act → World → Prop
  | .normal, _, W => LoopAt W L D { r with state := .busy } ∧ Rn (W.putObj L (.loop { r with state := .ready, pending := none }))
  | .ret, _, W => LoopAt W L D { r with state := .busy } ∧ Rx .ret (W.putObj L (.loop { r with state := .done, pending := some .ret }))
  | .exit id, _, W => LoopAt W L D { r with state := .busy } ∧ Rx (.exit id) (W.putObj L (.loop { r with state := .done, pending := some (.exit id) }))
  | _, _, _ => False
/-- a round -/
theorem yield_law {P : Program} {m L D : Nat} {r : Loop} {args : Array Value} {W : World} {Rn : World → Prop} {Rx : Code → World → Prop} (hl : LoopAt W L D r) (hr : r.state = .ready) (hs : args.size = r.params.size) (a1 : Act)
    (hassign : ∀ K : Act → World → Prop, K a1 W → r.assign.wpIn (Fence.wide.inRound L) m P (Exit.then K (fun _ _ _ => False)) { tmps := (r.params.zip args).foldl (fun t (p, v) => t.setIfInBounds p v) r.tmps, defers := [] } W)
    (hbody : ∀ W2, W2 = W.putObj L (.loop { r with state := .busy }) → LoopAt W2 L D { r with state := .busy } → r.body.wpIn (Fence.wide.inRound L) m P (bodyWay L D r Rn Rx) a1 W2) :
    YieldAt Fence.wide m P L args W (fun e W' => (e = .returned (.bool true) ∧ Rn W') ∨ (e = .returned (.bool false) ∧ ∃ c, Rx c W')) := by
  have hy := run_yield (P := P) (args := args) hl.lp hs
  refine ⟨r.fn, _, r.assign, r.body, hy, roundIn_of_wpIn (F := Fence.wide) trivial (hassign _ ⟨_, run_beginRound hl.lp hr, ?_⟩)⟩
  refine wpIn_mono (hbody _ rfl (hl.put _)) ?_
  rintro e a3 W3 hp
  cases e with
  | normal =>
    obtain ⟨h3, h4⟩ := hp
    exact ⟨_, _, run_endRound none h3.lp, .inl ⟨rfl, h4⟩⟩
  | ret =>
    obtain ⟨h3, h4⟩ := hp
    exact ⟨_, _, run_endRound (some .ret) h3.lp, .inr ⟨rfl, _, h4⟩⟩
  | exit id =>
    obtain ⟨h3, h4⟩ := hp
    exact ⟨_, _, run_endRound (some (.exit id)) h3.lp, .inr ⟨rfl, _, h4⟩⟩
  | goto t => exact hp.elim
  | panic ch => exact hp.elim
  | outgrown => exact hp.elim
/-- the statement -/
theorem rf_law {P : Program} {n : Nat} {g : Operand} {ps : Array Tmp} {assign body : Code} {Q : Exit → Act → World → Prop} {a : Act} {w : World} {gf : Nat} {lb : Array Value} (hg : a.eval g = .func (.func gf) #[] lb) (eg : ∀ args w, (callFunc gf args).run P w = .ok (.enter gf args) w)
    (Dn : World → Prop) (Sp : Code → World → Prop)
    (hcall : ∀ (r : Loop) (W1 : World), r.state = .ready → r.pending = none → r.tmps = a.tmps → r.params = ps → r.assign = assign → r.body = body → W1 = (w.alloc (.deferred (some []))).alloc (.loop r) → LoopAt W1 (w.heap.size + 1) w.heap.size r →
      CallsIn Fence.wide (n - 1) P gf (#[.func (.yield (w.heap.size + 1)) #[] #[]] ++ lb) W1 fun e W3 => (∃ v, e = .returned v) ∧ ((Dn W3 ∧ ∃ q : Loop, LoopAt W3 (w.heap.size + 1) w.heap.size q ∧ q.state ≠ .busy ∧ q.pending = none) ∨ (∃ c, Sp c W3 ∧ ∃ q : Loop, LoopAt W3 (w.heap.size + 1) w.heap.size q ∧ q.state ≠ .busy ∧ q.pending = some c)))
    (hdone : ∀ (W3 : World) (q : Loop), Dn W3 → LoopAt (W3.putObj (w.heap.size + 1) (.loop q)) (w.heap.size + 1) w.heap.size q → Q .normal { a with defers := { target := .collected w.heap.size, args := #[] } :: a.defers } (W3.putObj (w.heap.size + 1) (.loop q)))
    (hstop : ∀ (W3 : World) (q : Loop) (c : Code), Sp c W3 → LoopAt (W3.putObj (w.heap.size + 1) (.loop q)) (w.heap.size + 1) w.heap.size q → c.wpIn Fence.wide n P Q { a with defers := { target := .collected w.heap.size, args := #[] } :: a.defers } (W3.putObj (w.heap.size + 1) (.loop q))) :
    (Code.rangeFunc g ps assign body).wpIn Fence.wide n P Q a w := by
  refine wpIn_rangeFunc ?_
  intro fn hfn
  obtain ⟨r, hr⟩ : ∃ r : Loop, r = { state := .ready, pending := none, fn, tmps := a.tmps, params := ps, assign, body, defers := w.heap.size } := ⟨_, rfl⟩
  obtain ⟨W1, hW1⟩ : ∃ W1, W1 = (w.alloc (.deferred (some []))).alloc (.loop r) := ⟨_, rfl⟩
  have hL1 : W1.heap[w.heap.size + 1]? = some (.loop r) := by
    rw [hW1]; have := World.alloc_heap_new (w.alloc (.deferred (some []))) (.loop r); rwa [World.size_alloc] at this
  have hK1 : W1.heap[w.heap.size]? = some (.deferred (some [])) := by
    rw [hW1]; exact (Below.heap_alloc _ _ _ (by simp)).trans (World.alloc_heap_new w _)
  refine ⟨w.heap.size + 1, [{ target := .collected w.heap.size, args := #[] }], W1, { target := .fn (.func gf) lb, args := #[.func (.yield (w.heap.size + 1)) #[] #[]] }, W1, gf, #[.func (.yield (w.heap.size + 1)) #[] #[]] ++ lb, W1, ?_, ?_, ?_, ?_, fun h => by simp [Fence.wide] at h, ?_⟩
  · rw [hW1, hr]; exact run_enterLoop_outer _ _ _ _ _
  · simp only [resolve, hg]
    simp [go_sem]
  · intro f' hf'; trivial
  · simp [invoke, go_sem, eg]
  · refine (hcall r W1 (by rw [hr]) (by rw [hr]) (by rw [hr]) (by rw [hr]) (by rw [hr]) (by rw [hr]) hW1 ⟨hL1, hK1⟩).mono ?_
    rintro e W3 ⟨⟨v, rfl⟩, ⟨hd, q, hq, hs, hp⟩ | ⟨c, hd, q, hq, hs, hp⟩⟩
    · refine ⟨none, _, by rw [← hp]; exact run_endLoop hq.lp hs, ?_⟩
      exact hdone W3 _ hd (hq.put _)
    · refine ⟨some c, _, by rw [← hp]; exact run_endLoop hq.lp hs, ?_⟩
      exact hstop W3 _ c hd (hq.put _)
end Go.Proofs.YtgmimmdojkoppaaGreatDoor.W
/- Package store: the blocks of the ring, one behind the other: the iterator. -/
namespace Go.Proofs.YtgmimmdojkoppaaGreatDoor.W
open Go.ChangeShapes Go.WideShapes Go.RowKit Go.Shelf
set_option linter.unusedVariables false

theorem from_c (W : World) (sb : Nat) (n : Int) : Calls Tryz.prog 294 #[.pointer (some ⟨sb, 0, none⟩), .int .i64 n] W fun e w' => e = .returned (.func (.func 307) #[] #[.pointer (some ⟨W.heap.size + 1, 0, none⟩), .pointer (some ⟨W.heap.size, 0, none⟩)]) ∧ w' = (W.alloc (.cells #[.pointer (some ⟨sb, 0, none⟩)] 41)).alloc (.cells #[.int .i64 n] 3) := by
  go_enter Tryz.func294, Tryz.ntmps294
  go_wp2
  go_ret
  exact ⟨rfl, rfl⟩
/-- how far the iterator is -/
def idxAt (xs : List Nat) (Bn : Nat) (W : World) : Nat := xs.findIdx (fun x : Nat => decide ((W.cell? ⟨Bn, 0, none⟩).map intOf = some (x : Int)))
theorem idxAt_eq (xs : List Nat) (Bn : Nat) (W : World) (i : Nat) (hi : i < xs.length) (hd : xs.Nodup) (hc : W.cell? ⟨Bn, 0, none⟩ = some (.int .i64 (xs[i] : Nat))) : idxAt xs Bn W = i := by
  unfold idxAt
  rw [List.findIdx_eq hi]
  refine ⟨by simp [hc, intOf], fun j hj => ?_⟩
  simp only [hc, Option.map_some, intOf, decide_eq_false_iff_not, Option.some.injEq]
  intro e
  have e' : xs[i] = xs[j] := by omega
  exact List.pairwise_iff_getElem.1 hd j i (by omega) hi hj e'.symm
set_option maxHeartbeats 1000000 in
theorem from1_in (n l Bn Bs sb : Nat) (hn : 1 ≤ n) (xs : List Nat) (hne : 0 < xs.length) (hd : xs.Nodup) (J K : Nat → World → Prop) (E X : World → Prop)
    (hY : ∀ i (hi : i < xs.length) W, J i W → YieldAt Fence.wide (n - 1) Tryz.prog l #[.int .i64 (xs[i] : Nat)] W fun e W' => (e = .returned (.bool true) ∧ K i W') ∨ (e = .returned (.bool false) ∧ X W'))
    (hJ : ∀ i (hi : i < xs.length) W, J i W → W.cell? ⟨Bn, 0, none⟩ = some (.int .i64 (xs[i] : Nat)))
    (hK : ∀ i (hi : i < xs.length) W, K i W → W.cell? ⟨Bn, 0, none⟩ = some (.int .i64 (xs[i] : Nat)) ∧ W.frozen? ⟨Bn, 0, none⟩ = false ∧ W.cell? ⟨Bs, 0, none⟩ = some (.pointer (some ⟨sb, 0, none⟩)) ∧ ∃ B O, Calls Tryz.prog 263 #[.pointer (some ⟨sb, 0, none⟩), .int .i64 (xs[i] : Nat)] W (fun e w' => e = .returned (.pointer (some ⟨B, O, none⟩)) ∧ w' = W) ∧ W.cell? ⟨B, O + 4, none⟩ = some (.int .i64 (xs[i + 1]?.getD 0 : Nat)))
    (hS : ∀ i (hi : i + 1 < xs.length) W, K i W → xs[i + 1] ≠ 0 ∧ J (i + 1) (W.setCell ⟨Bn, 0, none⟩ (.int .i64 (xs[i + 1] : Nat))))
    (hE : ∀ i W, i + 1 = xs.length → K i W → E (W.setCell ⟨Bn, 0, none⟩ (.int .i64 0)))
    (W : World) (h0 : J 0 W) :
    CallsIn Fence.wide n Tryz.prog 307 #[.func (.yield l) #[] #[], .pointer (some ⟨Bn, 0, none⟩), .pointer (some ⟨Bs, 0, none⟩)] W fun e W' => (∃ v, e = .returned v) ∧ (E W' ∨ X W') := by
  refine callsIn_of_wp Tryz.func307 rfl trivial ?_ rfl
  simp only [Tryz.ntmps307, List.size_toArray, List.length_cons, List.length_nil, Nat.reduceAdd, Nat.reduceSub, Array.replicate_succ, Array.replicate_zero, List.push_toArray, List.append_toArray, List.nil_append, List.cons_append]
  gi_wp2
  gi_loopw [5] (fun _ wr => ∃ i, i < xs.length ∧ J i wr) (fun _ wr => xs.length - idxAt xs Bn wr)
  case atStart => exact ⟨0, hne, h0⟩
  case round =>
    obtain ⟨i, hi, hJi⟩ := hrel
    have c1 := hJ i hi wr hJi
    obtain ⟨fn, tmps, assign, body, hy, hR⟩ := hY i hi wr hJi
    gi_wp2
    refine hR.mono ?_
    rintro e W3 (⟨rfl, hK3⟩ | ⟨rfl, hX3⟩)
    · obtain ⟨k1, k2, k3, B, O, cb, k4⟩ := hK i hi W3 hK3
      by_cases hlast : i + 1 < xs.length
      · obtain ⟨hz, hJ4⟩ := hS i hlast W3 hK3
        have ex : xs[i + 1]?.getD 0 = xs[i + 1] := by simp [hlast]
        rw [ex] at k4
        have hz' : (((xs[i + 1] : Nat) : Int) == 0) = false := by simp; omega
        have k5 : (W3.setCell ⟨Bn, 0, none⟩ (.int .i64 (xs[i + 1] : Nat))).cell? ⟨Bn, 0, none⟩ = some (.int .i64 (xs[i + 1] : Nat)) := World.cell?_setCell_same' _ _ _ (by rw [k1]; rfl)
        have hm : Hid (idxAt xs Bn (W3.setCell ⟨Bn, 0, none⟩ (.int .i64 (xs[i + 1] : Nat))) = i + 1) := idxAt_eq xs Bn _ (i + 1) hlast hd k5
        have hm0 : Hid (idxAt xs Bn wr = i) := idxAt_eq xs Bn _ i hi hd c1
        have HJ := hid hJ4
        clear hJ4 hY hJ hK hS hE hJi hy
        gi_wp2_with ((refine ⟨trivial, ?_⟩); gi_at_call 263; (refine (callsIn_wide.2 cb).mono ?_); rintro e w' ⟨rfl, hw⟩; (have hw' := hw.symm); subst hw'; clear hw)
        go_roundw
        case rel => exact ⟨i + 1, hlast, HJ⟩
        case measure => rw [hm.out, hm0.out]; omega
      · have ex : xs[i + 1]?.getD 0 = 0 := by simp [List.getElem?_eq_none (by omega : xs.length ≤ i + 1)]
        rw [ex] at k4
        have hE4 := hid (hE i W3 (by omega) hK3)
        have k5 : (W3.setCell ⟨Bn, 0, none⟩ (.int .i64 0)).cell? ⟨Bn, 0, none⟩ = some (.int .i64 0) := World.cell?_setCell_same' _ _ _ (by rw [k1]; rfl)
        clear hY hJ hK hS hE hJi hy
        gi_wp2_with ((refine ⟨trivial, ?_⟩); gi_at_call 263; (refine (callsIn_wide.2 cb).mono ?_); rintro e w' ⟨rfl, hw⟩; (have hw' := hw.symm); subst hw'; clear hw)
        refine bodyPost_ret (results_none rfl _ _ _) rfl ?_
        exact ⟨⟨_, rfl⟩, .inl hE4.out⟩
    · clear hY hJ hK hS hE hJi hy
      gi_wp2
      go_end0
      exact ⟨⟨_, rfl⟩, .inr hX3⟩
end Go.Proofs.YtgmimmdojkoppaaGreatDoor.W
