/- Package store: New; leastId where no Id has been given back; Used, Span, Len. -/
import Derived.Test.YtenbjlmomkiknabS5l
namespace Go.Proofs.Ytenbjlmomkiknab.W
open Go.ChangeShapes Go.WideShapes Go.RowKit Go.Shelf
set_option linter.unusedVariables false

def noBlk : Blk := ⟨false, 0, 0, 0, 0⟩
def emptySto : Sto := ⟨[], noBlk, [], [], 0, 0, false⟩
theorem new_c (W : World) : Calls Try.prog 18 #[] W fun e w' => e = .returned (.pointer (some ⟨W.heap.size, 0, none⟩)) ∧ Lay w' W.heap.size (.slice none 0 0) (.slice none 0 0) (.slice none 0 0) emptySto ∧ Below W.heap.size W w' ∧ w'.heap.size = W.heap.size + 1 := by
  go_enter Try.func18, Try.ntmps18
  go_wp2
  go_ret
  refine ⟨rfl, ⟨heap_alloc_new W _, World.ownsRow_nil _ _ _ _, World.ownsRow_nil _ _ _ _, World.ownsRow_nil _ _ _ _⟩, (Below.refl _ _).alloc (Nat.le_refl _) _, by simp⟩
theorem info59 : (Try.prog.info? 89).map (fun i => (i.zero, i.size, i.bytes)) = some (some (.agg #[.bool false, .int .i64 0, .int .i64 0, .int .i64 0, .int .i64 0]), 5, 40) := by kernel_rfl
theorem under60 : Try.prog.underlying 90 = some (.slice 89) := by kernel_rfl
section
variable {W : World} {sb : Nat} {vr vb vf : Value} {s : Sto}
theorem slice_of {e : TypeId} {size : Nat} {v : Value} {n : Nat} {xs : List Value} (h : W.ownsRow 0 e size v n xs) : ∃ o cap, v = .slice o n cap := by
  rcases h.2 with ⟨rfl, rfl⟩ | ⟨g, cap, cur, rfl, _⟩
  · exact ⟨_, _, rfl⟩
  · exact ⟨_, _, rfl⟩
theorem used_c (h : Lay W sb vr vb vf s) : Calls Try.prog 29 #[.pointer (some ⟨sb, 0, none⟩)] W fun e w' => e = .returned (.int .i64 s.used) ∧ w' = W := by
  have c8 := h.cell 8
  simp [Sto.obj] at c8
  go_enter Try.func29, Try.ntmps29
  go_wp2
  go_ret
  exact ⟨rfl, rfl⟩
theorem span_c (h : Lay W sb vr vb vf s) : Calls Try.prog 31 #[.pointer (some ⟨sb, 0, none⟩)] W fun e w' => e = .returned (.int .i64 s.row.length) ∧ w' = W := by
  obtain ⟨o, cap, rfl⟩ := slice_of h.row
  have c0 := h.cell 0
  simp [Sto.obj] at c0
  go_enter Try.func31, Try.ntmps31
  go_wp2
  go_ret
  exact ⟨rfl, rfl⟩
theorem len_some (h : Lay W sb vr vb vf s) (hlen : s.blks.length ≤ 1000000000) (id : Int) (b : Blk) (hx : s.ext id = some b) :
    Calls Try.prog 28 #[.pointer (some ⟨sb, 0, none⟩), .int .i64 id] W fun e w' => e = .returned (.tuple #[.int .i64 b.len, .int .i64 0]) ∧ w' = W := by
  have ch := has_c h hlen id
  simp only [hx, Option.isSome_some] at ch
  obtain ⟨k, rfl, hb, hl⟩ := ext_some hx
  have h1 := (List.getElem?_eq_some_iff.1 hb).1
  have hg : s.get (k + 1) = some b := by unfold Sto.get; rw [if_neg (by omega)]; exact hb
  obtain ⟨g, cap, rfl, _⟩ := own_slice h.blk (Nat.lt_of_le_of_lt (Nat.zero_le _) h1)
  obtain ⟨_, _, b2, _, _⟩ := bcells h hg (.inr ⟨by omega, rfl, rfl⟩)
  simp only [Nat.add_sub_cancel] at b2
  have c6 := h.cell 6
  simp [Sto.obj] at c6
  have h0' : (0 : Int) ≤ k := by omega
  have h1' : (k : Int) < s.blks.length := by omega
  clear hg hb hx
  go_enter Try.func28, Try.ntmps28
  go_wp2_with (go_at_call 55; (with_reducible refine ch.mono ?_); rintro e w' ⟨rfl, hw⟩; (have hw' := hw.symm); subst hw'; clear hw)
  go_ret2
  exact ⟨rfl, rfl⟩
theorem len_none (h : Lay W sb vr vb vf s) (hlen : s.blks.length ≤ 1000000000) (id : Int) (hx : s.ext id = none) :
    Calls Try.prog 28 #[.pointer (some ⟨sb, 0, none⟩), .int .i64 id] W fun e w' => e = .returned (.tuple #[.int .i64 0, .int .i64 30]) ∧ w' = W := by
  have ch := has_c h hlen id
  simp only [hx, Option.isSome_none] at ch
  go_enter Try.func28, Try.ntmps28
  go_wp2_with (go_at_call 55; (with_reducible refine ch.mono ?_); rintro e w' ⟨rfl, hw⟩; (have hw' := hw.symm); subst hw'; clear hw)
  go_ret2
  exact ⟨rfl, rfl⟩
set_option maxHeartbeats 1000000 in
theorem leastId_new (h : Lay W sb vr vb vf s) (hf : s.free = []) (hlen : s.blks.length ≤ 1000000000) {S : Nat → Prop} (hO : Own S sb vr vb vf) :
    Calls Try.prog 50 #[.pointer (some ⟨sb, 0, none⟩)] W fun e w' => e = .returned (.int .i64 s.blks.length) ∧ Upd S W w' ∧ ∃ vb', Lay w' sb vr vb' vf { s with blks := s.blks ++ [noBlk] } ∧ Own (Nx S W w') sb vr vb' vf := by
  have hfr := h.free
  rw [hf] at hfr
  obtain ⟨o, cap, hvf⟩ := slice_of hfr
  simp only [List.length_nil] at hvf
  have c7 := h.cell 7
  have c6 := h.cell 6
  simp [Sto.obj, hvf] at c7 c6
  obtain ⟨i0, hi, hz0, hz1, hz2⟩ := info_parts info59
  have hnews : ∀ j u, noBlk.cells[j]? = some u → (W.alloc (.cells #[.bool false, .int .i64 0, .int .i64 0, .int .i64 0, .int .i64 0] 89)).cell? ((⟨W.heap.size, 0, none⟩ : Addr).add j) = some u := by
    intro j u hj
    have e : (⟨W.heap.size, 0, none⟩ : Addr).add j = ⟨W.heap.size, j, none⟩ := by unfold Addr.add; split <;> simp_all
    rw [e, World.cell?_alloc_new]
    simpa [Blk.cells, noBlk] using hj
  have ho1 : ∀ u ∈ noBlk.cells, u.oneCell' = true := by intro u hu; simp [Blk.cells, noBlk] at hu; rcases hu with rfl | rfl <;> rfl
  obtain ⟨vb', W4, hrun, hown, hgr, hnew⟩ := append_at (P := Try.prog) (W.alloc (.cells #[.bool false, .int .i64 0, .int .i64 0, .int .i64 0, .int .i64 0] 89)) 90 90 89 i0 _ 5 40 under60 hi hz0 hz1 hz2 rfl (by decide) vb s.blks.length (flat s.blks) (h.blk.alloc _) ⟨W.heap.size, 0, none⟩ 1 1 noBlk.cells rfl hnews ho1 (by decide) (by decide) (by omega)
  obtain ⟨g4, cap4, rfl, hcap4⟩ := own_slice hown (by omega)
  have hLa := h.alloc (.cells #[.bool false, .int .i64 0, .int .i64 0, .int .i64 0, .int .i64 0] 89)
  have hL5 : Lay (W4.setCell ⟨sb, 6, none⟩ (.slice (some ⟨g4, 0, none⟩) (s.blks.length + 1) cap4)) sb vr (.slice (some ⟨g4, 0, none⟩) (s.blks.length + 1) cap4) vf { s with blks := s.blks ++ [noBlk] } := by
    refine hLa.regrow_blk hgr ?_
    rw [flat_append, List.length_append]
    exact hown
  have hUa := (Upd.refl S W).alloc (.cells #[.bool false, .int .i64 0, .int .i64 0, .int .i64 0, .int .i64 0] 89)
  have hU4 := hUa.grown hgr (fun k e => .inl (hO.blk k e))
  have hU5 := hU4.setCell (p := ⟨sb, 6, none⟩) (.inl hO.sb) (.slice (some ⟨g4, 0, none⟩) (s.blks.length + 1) cap4)
  have hO5 : Own (Nx S W (W4.setCell ⟨sb, 6, none⟩ (.slice (some ⟨g4, 0, none⟩) (s.blks.length + 1) cap4))) sb vr (.slice (some ⟨g4, 0, none⟩) (s.blks.length + 1) cap4) vf := by
    refine ⟨.inl hO.sb, fun k e => .inl (hO.row k e), fun k e => ?_, fun k e => .inl (hO.free k e)⟩
    rcases hnew k e with g | ⟨g1, g2⟩
    · exact .inl (hO.blk k g)
    · exact .inr ⟨by simp at g1; omega, by simpa [World.setCell] using g2⟩
  have hob4 : W4.heap[sb]? = (W.alloc (.cells #[.bool false, .int .i64 0, .int .i64 0, .int .i64 0, .int .i64 0] 89)).heap[sb]? := hgr.block sb (lay_lt hLa).1 (own_ne hLa.blk hLa.obj (by decide))
  have th4 : W4.frozen? ⟨sb, 6, none⟩ = false := by rw [World.frozen?_of_block hob4]; exact hLa.thaw 6
  have c4 : W4.cell? ⟨sb, 6, none⟩ = some vb := by rw [World.cell?_of_block hob4, hLa.cell 6]; rfl
  have c6' := hL5.cell 6
  simp [Sto.obj] at c6'
  have HL := hid hL5
  have HU := hid hU5
  have HO := hid hO5
  clear hL5 hU5 hO5 hU4 hUa hgr hnew hown hob4 hLa hfr
  go_enter Try.func50, Try.ntmps50
  go_wp2_with (at_builtin; refine Lib.wpList_append_run _ rfl _ _ _ _ rfl _ _ rfl rfl _ _ hrun ?_)
  go_ret
  exact ⟨rfl, HU, _, HL, HO⟩
end
end Go.Proofs.Ytenbjlmomkiknab.W
