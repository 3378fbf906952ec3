/- Package store: has, part. -/
import Derived.Test.YtenbjlmomkiknabS5c
namespace Go.Proofs.Ytenbjlmomkiknab.W
open Go.ChangeShapes Go.WideShapes Go.RowKit
set_option linter.unusedVariables false

/-- the extent of an Id -/
def Sto.ext (s : Sto) (id : Int) : Option Blk := if id < 0 then none else match s.blks[id.toNat]? with | some b => if b.live = true then some b else none | none => none
theorem ext_some {s : Sto} {id : Int} {b : Blk} (h : s.ext id = some b) : ∃ k : Nat, id = k ∧ s.blks[k]? = some b ∧ b.live = true := by
  unfold Sto.ext at h
  split at h
  · cases h
  · split at h
    · split at h
      · cases h
        exact ⟨id.toNat, by omega, by assumption, by assumption⟩
      · cases h
    · cases h
section
variable {W : World} {sb : Nat} {vr vb vf : Value} {s : Sto}
theorem has_c (h : Lay W sb vr vb vf s) (hlen : s.blks.length ≤ 1000000000) (id : Int) :
    Calls Try.prog 55 #[.pointer (some ⟨sb, 0, none⟩), .int .i64 id] W fun e w' => e = .returned (.bool (s.ext id).isSome) ∧ w' = W := by
  by_cases h0 : id < 0
  · have e : Hid ((s.ext id).isSome = false) := by unfold Sto.ext; rw [if_pos h0]; exact hid rfl
    go_enter Try.func55, Try.ntmps55
    go_wp2
    go_ret
    exact ⟨by rw [e.out]; rfl, rfl⟩
  · obtain ⟨k, rfl⟩ := Int.eq_ofNat_of_zero_le (by omega : 0 ≤ id)
    by_cases h1 : k < s.blks.length
    · obtain ⟨b, hb⟩ : ∃ b, s.blks[k]? = some b := ⟨_, List.getElem?_eq_getElem h1⟩
      have e : Hid ((s.ext k).isSome = b.live) := by
        unfold Sto.ext
        rw [if_neg h0]
        simp only [Int.toNat_natCast, hb]
        cases b.live <;> exact hid rfl
      have hg : s.get (k + 1) = some b := by unfold Sto.get; rw [if_neg (by omega)]; exact hb
      obtain ⟨g, cap, rfl, _⟩ := own_slice h.blk (Nat.lt_of_le_of_lt (Nat.zero_le _) h1)
      obtain ⟨b0, _, _, _, _⟩ := bcells h hg (.inr ⟨by omega, rfl, rfl⟩)
      simp only [Nat.add_sub_cancel] at b0
      have c6 := h.cell 6
      simp [Sto.obj] at c6
      have h0' : (0 : Int) ≤ k := by omega
      have h1' : (k : Int) < s.blks.length := by omega
      clear hb hg
      go_enter Try.func55, Try.ntmps55
      go_wp2
      go_ret
      exact ⟨by rw [e.out]; rfl, rfl⟩
    · have e : Hid ((s.ext k).isSome = false) := by
        unfold Sto.ext
        rw [if_neg h0]
        simp only [Int.toNat_natCast, List.getElem?_eq_none (by omega : s.blks.length ≤ k)]
        exact hid rfl
      have c6 := h.cell 6
      have h1' : ¬ (k : Int) < s.blks.length := by omega
      have hb : ∃ o cap, vb = .slice o s.blks.length cap := by
        rcases h.blk.2 with ⟨rfl, e⟩ | ⟨g, cap, cur, rfl, _⟩
        · exact ⟨_, _, by rw [e]⟩
        · exact ⟨_, _, rfl⟩
      obtain ⟨o, cap, rfl⟩ := hb
      simp [Sto.obj] at c6
      go_enter Try.func55, Try.ntmps55
      go_wp2
      go_ret
      exact ⟨by rw [e.out]; rfl, rfl⟩
/-- may so many bytes be reached? -/
def reachE (n off width : Int) : Int := if ¬ (width = 1 ∨ width = 2 ∨ width = 4 ∨ width = 8) then 50 else if off % width ≠ 0 then 32 else if off < 0 ∨ off > n - width then 31 else 0
theorem part_none (h : Lay W sb vr vb vf s) (hlen : s.blks.length ≤ 1000000000) (id off width : Int) (hx : s.ext id = none) :
    Calls Try.prog 54 #[.pointer (some ⟨sb, 0, none⟩), .int .i64 id, .int .i64 off, .int .i64 width] W fun e w' => e = .returned (.tuple #[.slice none 0 0, .int .i64 30]) ∧ w' = W := by
  have ch := has_c h hlen id
  simp only [hx, Option.isSome_none] at ch
  go_enter Try.func54, Try.ntmps54
  go_wp2_with (go_at_call 55; (with_reducible refine ch.mono ?_); rintro e w' ⟨rfl, hw⟩; (have hw' := hw.symm); subst hw'; clear hw)
  go_ret2
  exact ⟨rfl, rfl⟩
theorem part_kind (h : Lay W sb vr vb vf s) (hlen : s.blks.length ≤ 1000000000) (id off width : Int) (b : Blk) (hx : s.ext id = some b) (hw : ¬ (width = 1 ∨ width = 2 ∨ width = 4 ∨ width = 8)) :
    Calls Try.prog 54 #[.pointer (some ⟨sb, 0, none⟩), .int .i64 id, .int .i64 off, .int .i64 width] W fun e w' => e = .returned (.tuple #[.slice none 0 0, .int .i64 50]) ∧ w' = W := by
  have ch := has_c h hlen id
  simp only [hx, Option.isSome_some] at ch
  have w1 : (width != 1) = true := by simp; omega
  have w2 : (width != 2) = true := by simp; omega
  have w4 : (width != 4) = true := by simp; omega
  have w8 : (width != 8) = true := by simp; omega
  go_enter Try.func54, Try.ntmps54
  go_wp2_with (go_at_call 55; (with_reducible refine ch.mono ?_); rintro e w' ⟨rfl, hw⟩; (have hw' := hw.symm); subst hw'; clear hw)
  go_ret2
  exact ⟨rfl, rfl⟩
theorem tmod_ne (off w : Int) (h : off % w ≠ 0) : (off.tmod w != 0) = true := by
  simp
  intro h2
  exact h (Int.emod_eq_zero_of_dvd (Int.dvd_of_tmod_eq_zero h2))
theorem tmod_eq (off w : Int) (h : off % w = 0) : (off.tmod w != 0) = false := by
  simp
  exact Int.tmod_eq_zero_of_dvd (Int.dvd_of_emod_eq_zero h)
theorem part_align (h : Lay W sb vr vb vf s) (hlen : s.blks.length ≤ 1000000000) (id off width : Int) (b : Blk) (hx : s.ext id = some b) (hw : width = 1 ∨ width = 2 ∨ width = 4 ∨ width = 8) (ha : off % width ≠ 0) :
    Calls Try.prog 54 #[.pointer (some ⟨sb, 0, none⟩), .int .i64 id, .int .i64 off, .int .i64 width] W fun e w' => e = .returned (.tuple #[.slice none 0 0, .int .i64 32]) ∧ w' = W := by
  have ch := has_c h hlen id
  simp only [hx, Option.isSome_some] at ch
  have ht := tmod_ne off width ha
  rcases hw with rfl | rfl | rfl | rfl
  · omega
  all_goals (
    go_enter Try.func54, Try.ntmps54
    go_wp2_with (go_at_call 55; (with_reducible refine ch.mono ?_); rintro e w' ⟨rfl, hw⟩; (have hw' := hw.symm); subst hw'; clear hw)
    go_ret2
    exact ⟨rfl, rfl⟩)
theorem part_index (h : Lay W sb vr vb vf s) (f : Fit s) (id off width : Int) (b : Blk) (hx : s.ext id = some b) (hw : width = 1 ∨ width = 2 ∨ width = 4 ∨ width = 8) (ha : off % width = 0) (ho : off < 0 ∨ off > b.len - width) :
    Calls Try.prog 54 #[.pointer (some ⟨sb, 0, none⟩), .int .i64 id, .int .i64 off, .int .i64 width] W fun e w' => e = .returned (.tuple #[.slice none 0 0, .int .i64 31]) ∧ Below W.heap.size W w' := by
  have ch := has_c h f.len id
  simp only [hx, Option.isSome_some] at ch
  have ht := tmod_eq off width ha
  obtain ⟨k, rfl, hb, hl⟩ := ext_some hx
  have h1 := (List.getElem?_eq_some_iff.1 hb).1
  have hg : s.get (k + 1) = some b := by unfold Sto.get; rw [if_neg (by omega)]; exact hb
  obtain ⟨f1, f2, f3, f4⟩ := f.blk _ b hg
  obtain ⟨g, cap, rfl, _⟩ := own_slice h.blk (Nat.lt_of_le_of_lt (Nat.zero_le _) h1)
  obtain ⟨b0, b1, b2, b3, b4⟩ := bcells h hg (.inr ⟨by omega, rfl, rfl⟩)
  simp only [Nat.add_sub_cancel] at b0 b1 b2 b3 b4
  have c6 := h.cell 6
  simp [Sto.obj] at c6
  have h0' : (0 : Int) ≤ k := by omega
  have h1' : (k : Int) < s.blks.length := by omega
  have n1 : W.cell? ⟨g, k * 5 + 1, none⟩ = some (.int .i64 b.pos) := b1
  clear hg hb hx
  rcases hw with rfl | rfl | rfl | rfl <;> (
    go_enter Try.func54, Try.ntmps54
    go_wp2_with (go_at_call 55; (with_reducible refine ch.mono ?_); rintro e w' ⟨rfl, hw⟩; (have hw' := hw.symm); subst hw'; clear hw)
    all_goals (
      go_ret2
      exact ⟨rfl, (Below.refl _ _).alloc (Nat.le_refl _) _⟩))
theorem ret_part {a : Option Addr} {n m c : Nat} {v : Value} (h : n = m) : Ending.returned (.tuple #[.slice a n c, v]) = .returned (.tuple #[.slice a m c, v]) := by rw [h]
theorem part_ok (h : Lay W sb vr vb vf s) (f : Fit s) (id width : Int) (b : Blk) (hx : s.ext id = some b) (hw : width = 1 ∨ width = 2 ∨ width = 4 ∨ width = 8) (o p : Nat) (hp : b.pos = p) (ha : (o : Int) % width = 0) (ho : o + width ≤ b.len) (g cap : Nat) (hr : vr = .slice (some ⟨g, 0, none⟩) s.row.length cap) (hcap : s.row.length ≤ cap) (hin : b.pos + b.len ≤ s.row.length) :
    Calls Try.prog 54 #[.pointer (some ⟨sb, 0, none⟩), .int .i64 id, .int .i64 o, .int .i64 width] W fun e w' => e = .returned (.tuple #[.slice (some ⟨g, p + o, none⟩) width.toNat (cap - (p + o)), .int .i64 0]) ∧ Below W.heap.size W w' := by
  subst hr
  have ch := has_c h f.len id
  simp only [hx, Option.isSome_some] at ch
  have ht := tmod_eq o width ha
  obtain ⟨k, rfl, hb, hl⟩ := ext_some hx
  have h1 := (List.getElem?_eq_some_iff.1 hb).1
  have hg : s.get (k + 1) = some b := by unfold Sto.get; rw [if_neg (by omega)]; exact hb
  obtain ⟨f1, f2, f3, f4⟩ := f.blk _ b hg
  obtain ⟨g2, cap2, rfl, _⟩ := own_slice h.blk (Nat.lt_of_le_of_lt (Nat.zero_le _) h1)
  obtain ⟨b0, b1, b2, b3, b4⟩ := bcells h hg (.inr ⟨by omega, rfl, rfl⟩)
  simp only [Nat.add_sub_cancel] at b0 b1 b2 b3 b4
  have c6 := h.cell 6
  have c0 := h.cell 0
  simp [Sto.obj] at c6 c0
  have h0' : (0 : Int) ≤ k := by omega
  have h1' : (k : Int) < s.blks.length := by omega
  have fr := f.row
  rw [hp] at b1 f1 f2 hin
  have lt : sb < W.heap.size := (Array.getElem?_eq_some_iff.1 h.obj).1
  have ca : ∀ o, (W.alloc o).cell? ⟨sb, 0, none⟩ = some (.slice (some ⟨g, 0, none⟩) s.row.length cap) := fun o => (World.cell?_of_block (Below.heap_alloc W o sb lt)).trans c0
  have hlo : (0 : Int) ≤ p + o := by omega
  have hhi : (p : Int) + o + width ≤ cap := by omega
  clear hg hb hx
  rcases hw with rfl | rfl | rfl | rfl <;> (
    go_enter Try.func54, Try.ntmps54
    go_wp2_with (go_at_call 55; (with_reducible refine ch.mono ?_); rintro e w' ⟨rfl, hw⟩; (have hw' := hw.symm); subst hw'; clear hw)
    go_ret2
    refine ⟨?_, (Below.refl _ _).alloc (Nat.le_refl _) _⟩
    first | exact ret_part (show p + o + 1 - (p + o) = Int.toNat 1 by omega) | exact ret_part (show p + o + 2 - (p + o) = Int.toNat 2 by omega) | exact ret_part (show p + o + 4 - (p + o) = Int.toNat 4 by omega) | exact ret_part (show p + o + 8 - (p + o) = Int.toNat 8 by omega))
end
end Go.Proofs.Ytenbjlmomkiknab.W
