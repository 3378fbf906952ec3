/- Package store: room, has, part, and the faces that only read. -/
import Derived.Test.YtenbjlmomkiknabS5b
namespace Go.Proofs.Ytenbjlmomkiknab.W
open Go.ChangeShapes Go.WideShapes Go.RowKit

/-- numbers that no sum of which wraps round -/
structure Fit (s : Sto) : Prop where
  len : s.blks.length ≤ 1000000000
  row : s.row.length ≤ 1000000000000
  byte : ∀ n ∈ s.row, n < 256
  used0 : 0 ≤ s.used
  used1 : s.used ≤ 1000000000000
  blk : ∀ n b, s.get n = some b → 0 ≤ b.pos ∧ b.pos ≤ 1000000000000 ∧ 0 ≤ b.len ∧ b.len ≤ 100000000
def Blk.stop (b : Blk) : Int := b.pos + up8 b.len
/-- how many bytes are free behind a block -/
def roomOf (s : Sto) (b : Blk) (m : Nat) (c : Blk) : Int := if m = 0 then 2 * s.used + 64 - b.stop else c.pos - b.stop
section
variable {W : World} {sb : Nat} {vr vb vf : Value} {s : Sto}
theorem Lay.drewN (h : Lay W sb vr vb vf s) (m : Nat) : Lay (W.drewN m) sb vr vb vf s := ⟨h.obj, h.row, h.blk, h.free⟩
theorem bcells (h : Lay W sb vr vb vf s) {n B O : Nat} {b : Blk} (hb : s.get n = some b) (hp : Pt sb vb n B O) : W.cell? ⟨B, O, none⟩ = some (.bool b.live) ∧ W.cell? ⟨B, O + 1, none⟩ = some (.int .i64 b.pos) ∧ W.cell? ⟨B, O + 2, none⟩ = some (.int .i64 b.len) ∧ W.cell? ⟨B, O + 3, none⟩ = some (.int .i64 b.back) ∧ W.cell? ⟨B, O + 4, none⟩ = some (.int .i64 b.next) :=
  ⟨h.bcell hb hp 0 (by omega), h.bcell hb hp 1 (by omega), h.bcell hb hp 2 (by omega), h.bcell hb hp 3 (by omega), h.bcell hb hp 4 (by omega)⟩
theorem stop_le (f : Fit s) {n : Nat} {b : Blk} (hb : s.get n = some b) : 0 ≤ b.stop ∧ b.stop ≤ 1000200000000 := by
  obtain ⟨h1, h2, h3, h4⟩ := f.blk n b hb
  unfold Blk.stop up8
  omega
theorem room_c (h : Lay W sb vr vb vf s) (f : Fit s) (n m : Nat) (b c : Blk) (hb : s.get n = some b) (hm : b.next = m) (hc : s.get m = some c) :
    Calls Try.prog 98 #[.pointer (some ⟨sb, 0, none⟩), .int .i64 n] W fun e w' => e = .returned (.int .i64 (roomOf s b m c)) ∧ ∃ q, w' = W.drewN q := by
  obtain ⟨B, O, hp⟩ := h.pt hb
  obtain ⟨B2, O2, hp2⟩ := h.pt hc
  obtain ⟨_, b1, b2, _, b4⟩ := bcells h hb hp
  obtain ⟨_, d1, _, _, _⟩ := bcells h hc hp2
  obtain ⟨f1, f2, f3, f4⟩ := f.blk n b hb
  obtain ⟨g1, g2, g3, g4⟩ := f.blk m c hc
  have u0 := f.used0
  have u1 := f.used1
  have c8 := h.cell 8
  simp [Sto.obj] at c8
  obtain ⟨st0, st1⟩ := stop_le f hb
  have hst : Hid (b.pos + up8 b.len = b.stop) := rfl
  rw [hm] at b4
  have cb := fun k => block_c (W.drewN k) sb vr vb vf s (h.drewN k) n b hb f.len B O hp
  have cb2 := fun k => block_c (W.drewN k) sb vr vb vf s (h.drewN k) m c hc f.len B2 O2 hp2
  have ce : ∀ k, Calls Try.prog 60 #[.pointer (some ⟨B, O, none⟩)] (W.drewN k) fun e w' => e = .returned (.int .i64 b.stop) ∧ ∃ m, w' = (W.drewN k).drewN m := fun k => end_c (W.drewN k) B O b.pos b.len b1 b2 f3 f4 f1 (by omega)
  have cb0 := cb 0
  rw [World.drewN_zero] at cb0
  have R : Hid (roomOf s b m c = if m = 0 then 2 * s.used + 64 - b.stop else c.pos - b.stop) := rfl
  by_cases hm0 : m = 0
  · have R0 : Hid (roomOf s b m c = 2 * s.used + 64 - b.stop) := by rw [Hid.out R, if_pos hm0]; exact hid rfl
    have hmb : ((m : Int) == 0) = true := by simp [hm0]
    clear R hp2 d1 cb2 cb hb hc
    go_enter Try.func98, Try.ntmps98
    go_wp2_with (go_at_call 59; (with_reducible refine cb0.mono ?_); rintro e w' ⟨rfl, hw⟩; (have hw' := hw.symm); subst hw'; clear hw)
    go_quiet ((go_at_call 60; exact Calls.quiet_of (ce _)))
    go_wp2
    go_ret
    exact ⟨by rw [R0.out]; rfl, _, rfl⟩
  · have R0 : Hid (roomOf s b m c = c.pos - b.stop) := by rw [Hid.out R, if_neg hm0]; exact hid rfl
    have hmb : ((m : Int) == 0) = false := by simp [hm0]
    clear R hb hc hm0
    go_enter Try.func98, Try.ntmps98
    go_wp2_with (go_at_call 59; (with_reducible refine cb0.mono ?_); rintro e w' ⟨rfl, hw⟩; (have hw' := hw.symm); subst hw'; clear hw)
    go_quiet (first | (go_at_call 60; exact Calls.quiet_of (ce _)) | (go_at_call 59; exact Calls.quiet_of_same (cb2 _)))
    go_wp2
    go_ret
    exact ⟨by rw [R0.out]; rfl, _, rfl⟩
end
end Go.Proofs.Ytenbjlmomkiknab.W
