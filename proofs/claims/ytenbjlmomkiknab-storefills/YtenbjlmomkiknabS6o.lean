/- Package store: Take over what all Ids hold. -/
import Derived.Test.YtenbjlmomkiknabS6m
import Derived.Test.YtenbjlmomkiknabS6n
import Derived.Test.YtenbjlmomkiknabS5v
import Derived.Test.YtenbjlmomkiknabS5z
namespace Go.Proofs.Ytenbjlmomkiknab.W
open Go.ChangeShapes Go.WideShapes Go.RowKit Go.Shelf
set_option linter.unusedVariables false
section
variable {W : World} {sb : Nat} {S : Nat → Prop} {A : List (Option (List Nat))} {U N : Nat}
/-- behind leastId -/
def Mid (s : Sto) (E : List Ex) (A : List (Option (List Nat))) (s1 : Sto) : Prop := Half s1 E (leastA A) ∧ (∀ i, held s1 i = held s i) ∧ s1.blks.length = (if leastA A < A.length then A.length else A.length + 1) ∧ s1.row = s.row ∧ s1.used = s.used
theorem least_c {s : Sto} {E : List Ex} {vr vb vf : Value} (hL : Lay W sb vr vb vf s) (hO : Own S sb vr vb vf) (f : Fine s E A U N) :
    Calls Try.prog 50 #[.pointer (some ⟨sb, 0, none⟩)] W fun e w' => e = .returned (.int .i64 (leastA A : Nat)) ∧ Upd S W w' ∧ ∃ s1, Mid s E A s1 ∧ ∃ vr1 vb1 vf1, Lay w' sb vr1 vb1 vf1 s1 ∧ Own (Nx S W w') sb vr1 vb1 vf1 := by
  have h3 := f.num; have h5 := f.n9; have h7 := f.all.1
  by_cases c : s.free = []
  · have hl := least_none f.all f.good c
    have hh := half_new f.all f.good c
    refine (leastId_new hL c (by omega) hO).mono ?_
    rintro e w' ⟨rfl, hU, vb', hL', hO'⟩
    refine ⟨by rw [hl, h7], hU, _, ⟨?_, hh.2, ?_, rfl, rfl⟩, vr, vb', vf, hL', hO'⟩
    · rw [hl, ← h7]; exact hh.1
    · rw [hl, if_neg (by omega)]
      show (s.blks ++ [noBlk]).length = _
      rw [List.length_append, h7]; rfl
  · have h0 : 0 < s.free.length := by
      cases e : s.free with
      | nil => exact absurd e c
      | cons a b => simp
    obtain ⟨hl, hlt⟩ := least_some f.all f.good h0
    have hfl : s.free.length ≤ s.blks.length := by
      have hs : s.free ⊆ (List.range s.blks.length).map (fun i : Nat => (i : Int)) := by
        intro x hx
        obtain ⟨i, e, hb⟩ := (f.good.free x).1 hx
        exact List.mem_map.2 ⟨i, List.mem_range.2 (List.getElem?_eq_some_iff.1 hb).1, e.symm⟩
      have := f.good.nodupF.length_le_of_subset hs
      simpa using this
    refine (leastId_pop hL (s.free.length - 1) (by omega) (by omega) f.good.heap hO).mono ?_
    rintro e w' ⟨rfl, hU, free', vf', hp', hh', hL', hO'⟩
    have hh := half_pop f.good hl hp' hh'
    refine ⟨by rw [hl], hU, _, ⟨hh.1, hh.2, ?_, rfl, rfl⟩, vr, vb, vf', hL', hO'.mono (fun k hk => .inl hk)⟩
    rw [if_pos hlt]; exact h7
theorem take_st (h : St W S sb A U N) (n : Nat) (hn : n ≤ 8388608) (hU : sumA A + up8N n ≤ U) (hN : A.length < N) :
    Calls Try.prog 23 #[.pointer (some ⟨sb, 0, none⟩), .int .i64 n] W fun e w' => e = .returned (.tuple #[.int .i64 (leastA A : Nat), .int .i64 0]) ∧ Upd S W w' ∧ St w' (Nx S W w') sb (putA A (leastA A) (some (List.replicate n 0))) U N := by
  obtain ⟨s, E, vr, vb, vf, hL, hO, f⟩ := h
  have h2 := f.top; have h3 := f.num; have h4 := f.u9; have h5 := f.n9; have h6 := f.used; have h7 := f.all.1; have h8 := f.row
  have hle : leastA A ≤ A.length := List.findIdx_le_length
  have cl := least_c hL hO f
  have hP : ∀ s1, Mid s E A s1 → leastA A < s1.blks.length ∧ s1.blks.length ≤ 100000000 ∧ 0 ≤ s1.used ∧ s1.used ≤ 100000000000 := by
    rintro s1 ⟨_, _, e, _, e2⟩
    rw [e2, h6, e]
    split <;> exact ⟨by omega, by omega, by omega, by omega⟩
  have hlenput : (putA A (leastA A) (some (List.replicate n 0))).length ≤ N := by rw [putA_len]; split <;> omega
  have hsumput : sumA (putA A (leastA A) (some (List.replicate n 0))) = sumA A + up8N n := by rw [sumA_put, List.length_replicate]
  by_cases c : n = 0
  · subst c
    refine (take_g0 (leastA A) (by omega) (Mid s E A) hP cl).mono ?_
    rintro e w' ⟨rfl, hU', s1, ⟨hh, hheld, hbl, hrow, hus⟩, vr4, vb4, vf4, hL4, hO4⟩
    have hid := (hP s1 ⟨hh, hheld, hbl, hrow, hus⟩).1
    have hz := half_zero hh hid
    refine ⟨rfl, hU', _, E, vr4, vb4, vf4, hL4, hO4, hz.1, ?_, ?_, f.lens, ?_, by omega, hlenput, h4, h5⟩
    · refine all_put (s := s) (s1 := s1) f.all hle ?_ ?_
      · show (s1.blks.set _ _).length = _
        rw [List.length_set]; exact hbl
      · intro i; rw [hz.2 i, hheld]; rfl
    · rw [hsumput, f.sum]; rfl
    · show s1.row.length ≤ _
      rw [hrow]; exact h8
  · have hu : up8 (n : Int) = (up8N n : Nat) := up8N_eq n
    refine (take_g (n : Int) (up8N n) (by omega) (by omega) hu (leastA A) (by omega) (Mid s E A) hP (fun s1 s4 bk nx q => skG (s1.took (leastA A) n) E (up8N n : Nat) s4 bk nx q) cl ?_).mono ?_
    · rintro s1 ⟨hh, hheld, hbl, hrow, hus⟩ W3 S3 vr3 vb3 vf3 hL3 hO3
      have hid := (hP s1 ⟨hh, hheld, hbl, hrow, hus⟩)
      have R := half_took hh (n : Int)
      have hus3 : (s1.took (leastA A) n).used = ((sumA A + up8N n : Nat) : Int) := by
        show s1.used + up8 (n : Int) = _
        rw [hu, hus, h6]; push_cast; rfl
      have fit : Fit (s1.took (leastA A) n) := by
        refine ring_fit R f.lens ?_ ?_ (by rw [hus3]; omega) (by rw [hus3]; omega) ?_
        · show s1.row.length ≤ _
          rw [hrow]; omega
        · show (s1.blks.set _ _).length ≤ _
          rw [List.length_set]; omega
        · intro i b hb hn'
          by_cases ci : i = leastA A
          · subst ci
            rw [← get_blks, took_get_id _ _ hid.1] at hb
            cases hb
            exact ⟨rfl, by show (0 : Int) ≤ (n : Int); omega, by show (n : Int) ≤ _; omega⟩
          · have hb' : s1.blks[i]? = some b := by
              rw [← hb]; exact (blks_set_get _ _ _ ci).symm
            rcases hh.zero i b hb' hn' with rfl | rfl
            · exact ⟨rfl, Int.le_refl _, by decide⟩
            · exact ⟨rfl, Int.le_refl _, by decide⟩
      obtain ⟨e, he, hhand⟩ := R.hand
      obtain ⟨hd, hdl, hde⟩ := List.mem_iff_getElem.1 he
      refine seek_c hL3 fit (ring_pk R) hd (by rw [numlen]; exact hdl) ?_ _ ?_ (took_get_id _ _ hid.1) hh.out hO3
      · rw [hhand, ← hde]
        congr 1
        exact (List.getElem_map ..).symm
      · rw [hus3, numlen, enE_sum, f.sum]; push_cast; omega
    · rintro e w' ⟨rfl, hU', s1, ⟨hh, hheld, hbl, hrow, hus⟩, s4, bk, nx, q, hG, vr4, vb4, vf4, hL4, hO4⟩
      have hid := (hP s1 ⟨hh, hheld, hbl, hrow, hus⟩).1
      obtain ⟨E', g', hd', hl', hs', hb', hr'⟩ := seekG_good hh hid (by omega) hG
      refine ⟨rfl, hU', _, E', vr4, vb4, vf4, hL4, hO4, g', ?_, ?_, ?_, ?_, by omega, hlenput, h4, h5⟩
      · refine all_put (s := s) (s1 := s1) f.all hle (hb'.trans hbl) ?_
        intro i; rw [hd' i, hheld]
      · rw [hsumput, hs', f.sum]
      · intro e he
        rcases hl' e he with h | ⟨x, hx, h⟩
        · omega
        · rw [← h]; exact f.lens x hx
      · refine Nat.le_trans hr' ?_
        rw [hrow, f.sum]; omega
end
end Go.Proofs.Ytenbjlmomkiknab.W
