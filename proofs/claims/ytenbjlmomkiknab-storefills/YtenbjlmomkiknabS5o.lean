/- Package store: extents that are taken one behind the other, from an empty store on. -/
import Derived.Test.YtenbjlmomkiknabS5n
namespace Go.Proofs.Ytenbjlmomkiknab.W
open Go.ChangeShapes Go.WideShapes Go.RowKit Go.Shelf
set_option linter.unusedVariables false

theorem layRow_end (row : List Nat) (u : Nat) : layRow row row.length u = row ++ List.replicate u 0 := by
  have hl : longer row (row.length + u) = row ++ List.replicate u 0 := by rw [longer, show row.length + u - row.length = u by omega]
  apply List.ext_getElem?
  intro j
  rw [layRow, hl, setL_get _ _ _ _ (by simp)]
  by_cases h : row.length ≤ j ∧ j < row.length + u
  · rw [if_pos (by simpa using h), List.getElem?_append_right h.1]
  · rw [if_neg (by simpa using h)]
theorem seekPost_first {W : World} {sb : Nat} {vr vb vf : Value} {s : Sto} (h : Lay W sb vr vb vf s) (f : Fit s) (hd p n : Nat) (hh : s.hand = hd) (size : Int) (b bn : Blk) (hb : s.get hd = some b) (hm : b.next = 0) (hst : b.stop = p) (hn : s.get n = some bn) (hne : hd ≠ n) (hn0 : n ≠ 0) (hroom : size ≤ 2 * s.used + 64 - p) {S : Nat → Prop} (hO : Own S sb vr vb vf) :
    Calls Try.prog 82 #[.pointer (some ⟨sb, 0, none⟩), .int .i64 size] W (SeekPost S W sb vb vf n bn (fun s' bk nx q => s' = s ∧ bk = hd ∧ nx = 0 ∧ q = p)) := by
  refine (seek_first h f hd hh size b s.head hb 0 hm rfl (by rw [roomOf, if_pos rfl, hst]; exact hroom) hO.sb).mono ?_
  rintro e w' ⟨rfl, hU, hL⟩
  exact ⟨s, vr, hd, 0, p, b, s.head, rfl, hU, hL, hO.mono (fun _ g => .inl g), f, hn, hb, hm, rfl, hne, fun e => hn0 e.symm, hst, rfl, rfl, rfl, rfl⟩
/-- a new Id, at the table's end -/
def Sto.fresh (s : Sto) (n : Int) : Sto := ({ s with blks := s.blks ++ [noBlk] } : Sto).took s.blks.length n
theorem take_simple {W : World} {sb : Nat} {vr vb vf : Value} {s : Sto} (h : Lay W sb vr vb vf s) (hf : s.free = []) (hlen : s.blks.length ≤ 1000000) (hus0 : 0 ≤ s.used) (hus1 : s.used ≤ 10000000000) (n : Int) (u : Nat) (hn0 : 0 < n) (hn1 : n ≤ 8388608) (hu : up8 n = u) (hd p : Nat) (b : Blk) (f : Fit (s.fresh n)) (hh : s.hand = hd) (hb : (s.fresh n).get hd = some b) (hm : b.next = 0) (hst : b.stop = p) (hne : hd ≤ s.blks.length) (hroom : (u : Int) ≤ 2 * (s.fresh n).used + 64 - p) {S : Nat → Prop} (hO : Own S sb vr vb vf) :
    Calls Try.prog 23 #[.pointer (some ⟨sb, 0, none⟩), .int .i64 n] W fun e w' => e = .returned (.tuple #[.int .i64 s.blks.length, .int .i64 0]) ∧ Upd S W w' ∧ ∃ vr4 vb4 vf4, Lay w' sb vr4 vb4 vf4 ((s.fresh n).laid (s.blks.length + 1) hd 0 p u) ∧ Own (Nx S W w') sb vr4 vb4 vf4 := by
  have gt : (s.fresh n).get (s.blks.length + 1) = some ⟨true, 0, n, 0, 0⟩ := by
    unfold Sto.get Sto.fresh Sto.took
    rw [if_neg (by omega)]
    simp
  refine (take_c (S := S) n u hn0 hn1 hu s.blks.length { s with blks := s.blks ++ [noBlk] } (by simp) (by simp; omega) hus0 (by dsimp only; omega) (fun s' bk nx q => s' = s.fresh n ∧ bk = hd ∧ nx = 0 ∧ q = p) ?_ ?_).mono ?_
  · refine (leastId_new h hf (by omega) hO).mono ?_
    rintro e w' ⟨rfl, hU, vb', hL, hO'⟩
    exact ⟨rfl, hU, vr, vb', vf, hL, hO'⟩
  · intro W3 S3 vr3 vb3 vf3 hL3 hO3
    exact seekPost_first hL3 f hd p (s.blks.length + 1) hh u b _ hb hm hst gt (by omega) (by omega) hroom hO3
  · rintro e w' ⟨rfl, hU, s4, bk, nx, q, ⟨rfl, rfl, rfl, rfl⟩, vr4, vb4, vf4, hL, hO'⟩
    exact ⟨rfl, hU, vr4, vb4, vf4, hL, hO'⟩
/-- a store with one extent of N bytes -/
def oneSto (N : Nat) : Sto := ⟨List.replicate N 0, ⟨false, 0, 0, 1, 1⟩, [⟨true, 0, N, 0, 0⟩], [], N, 1, false⟩
/-- a store with one extent of N bytes, and one of 8 -/
def twoSto (N : Nat) : Sto := ⟨List.replicate (N + 8) 0, ⟨false, 0, 0, 2, 1⟩, [⟨true, 0, N, 0, 2⟩, ⟨true, N, 8, 1, 0⟩], [], N + 8, 2, false⟩
/-- what a store of one extent of n bytes, whose row has u, is -/
def firstSto (n : Int) (u : Nat) : Sto := ⟨List.replicate u 0, ⟨false, 0, 0, 1, 1⟩, [⟨true, 0, n, 0, 0⟩], [], u, 1, false⟩
theorem get_two {s : Sto} {n : Nat} {b c d : Blk} (hs : s.blks = [c, d]) (h : s.get n = some b) : b = s.head ∨ b = c ∨ b = d := by
  unfold Sto.get at h
  split at h
  · left; cases h; rfl
  · rw [hs] at h
    right
    match n, h with
    | 1, h => left; simpa using h.symm
    | 2, h => right; simpa using h.symm
    | n + 3, h => simp at h
theorem get_one {s : Sto} {n : Nat} {b c : Blk} (hs : s.blks = [c]) (h : s.get n = some b) : b = s.head ∨ b = c := by
  unfold Sto.get at h
  split at h
  · left; cases h; rfl
  · rw [hs] at h
    right
    match n, h with
    | 1, h => simpa using h.symm
    | n + 2, h => simp at h
theorem first_take {W : World} {sb : Nat} {vr vb vf : Value} (h : Lay W sb vr vb vf emptySto) (n : Int) (u : Nat) (hn0 : 0 < n) (hn1 : n ≤ 8388608) (hu : up8 n = u) {S : Nat → Prop} (hO : Own S sb vr vb vf) :
    Calls Try.prog 23 #[.pointer (some ⟨sb, 0, none⟩), .int .i64 n] W fun e w' => e = .returned (.tuple #[.int .i64 0, .int .i64 0]) ∧ Upd S W w' ∧ ∃ vr4 vb4 vf4, Lay w' sb vr4 vb4 vf4 (firstSto n u) ∧ Own (Nx S W w') sb vr4 vb4 vf4 := by
  have hub : (u : Int) ≤ 8388616 := by unfold up8 at hu; omega
  have f : Fit (emptySto.fresh n) := by
    refine ⟨by simp [Sto.fresh, Sto.took, emptySto], by simp [Sto.fresh, Sto.took, emptySto], by simp [Sto.fresh, Sto.took, emptySto], ?_, ?_, ?_⟩
    · show 0 ≤ 0 + up8 n; omega
    · show 0 + up8 n ≤ _; omega
    · intro k b hb
      rcases get_one (c := ⟨true, 0, n, 0, 0⟩) rfl hb with rfl | rfl
      · exact ⟨Int.le_refl _, show (0 : Int) ≤ 1000000000000 by decide, Int.le_refl _, show (0 : Int) ≤ 100000000 by decide⟩
      · exact ⟨Int.le_refl _, show (0 : Int) ≤ 1000000000000 by decide, Int.le_of_lt hn0, show n ≤ 100000000 by omega⟩
  refine (take_simple h rfl (by decide) (by decide) (by decide) n u hn0 hn1 hu 0 0 noBlk f rfl rfl rfl rfl (by decide) (by show (u : Int) ≤ 2 * (0 + up8 n) + 64 - 0; omega) hO).mono ?_
  rintro e w' ⟨rfl, hU, vr4, vb4, vf4, hL, hO'⟩
  refine ⟨rfl, hU, vr4, vb4, vf4, ?_, hO'⟩
  have e1 : (emptySto.fresh n).laid (emptySto.blks.length + 1) 0 0 0 u = firstSto n u := by
    have er : layRow [] 0 u = List.replicate u 0 := by have := layRow_end [] u; simpa using this
    have eu : (0 : Int) + up8 n = u := by omega
    show (⟨layRow [] 0 u, ⟨false, 0, 0, 1, 1⟩, [⟨true, 0, n, 0, 0⟩], [], 0 + up8 n, 1, false⟩ : Sto) = _
    rw [er, eu]; rfl
  rw [← e1]; exact hL
theorem fit_first (n : Int) (u : Nat) (hn0 : 0 < n) (hn1 : n ≤ 8388608) (hu : up8 n = u) : Fit (firstSto n u) := by
  have hub : (u : Int) ≤ 8388616 := by unfold up8 at hu; omega
  refine ⟨show 1 ≤ 1000000000 by decide, by simp [firstSto]; omega, fun x hx => by rw [List.eq_of_mem_replicate hx]; decide, show (0 : Int) ≤ u by omega, show (u : Int) ≤ 1000000000000 by omega, ?_⟩
  intro k b hb
  rcases get_one (c := ⟨true, 0, n, 0, 0⟩) rfl hb with rfl | rfl
  · exact ⟨Int.le_refl _, show (0 : Int) ≤ 1000000000000 by decide, Int.le_refl _, show (0 : Int) ≤ 100000000 by decide⟩
  · exact ⟨Int.le_refl _, show (0 : Int) ≤ 1000000000000 by decide, Int.le_of_lt hn0, show n ≤ 100000000 by omega⟩
theorem second_take {W : World} {sb : Nat} {vr vb vf : Value} (N : Nat) (hN0 : 0 < N) (hN1 : N ≤ 1000000) (hN8 : up8 N = N) (h : Lay W sb vr vb vf (firstSto N N)) {S : Nat → Prop} (hO : Own S sb vr vb vf) :
    Calls Try.prog 23 #[.pointer (some ⟨sb, 0, none⟩), .int .i64 8] W fun e w' => e = .returned (.tuple #[.int .i64 1, .int .i64 0]) ∧ Upd S W w' ∧ ∃ vr4 vb4 vf4, Lay w' sb vr4 vb4 vf4 (twoSto N) ∧ Own (Nx S W w') sb vr4 vb4 vf4 := by
  have f : Fit ((firstSto N N).fresh 8) := by
    refine ⟨show 2 ≤ 1000000000 by decide, by simp [Sto.fresh, Sto.took, firstSto]; omega, fun x hx => by rw [List.eq_of_mem_replicate hx]; decide, show (0 : Int) ≤ N + up8 8 by unfold up8; omega, show (N : Int) + up8 8 ≤ _ by unfold up8; omega, ?_⟩
    intro k b hb
    rcases get_two (c := ⟨true, 0, N, 0, 0⟩) (d := ⟨true, 0, 8, 0, 0⟩) rfl hb with rfl | rfl | rfl
    · exact ⟨Int.le_refl _, show (0 : Int) ≤ 1000000000000 by decide, Int.le_refl _, show (0 : Int) ≤ 100000000 by decide⟩
    · exact ⟨Int.le_refl _, show (0 : Int) ≤ 1000000000000 by decide, show (0 : Int) ≤ N by omega, show (N : Int) ≤ 100000000 by omega⟩
    · exact ⟨Int.le_refl _, show (0 : Int) ≤ 1000000000000 by decide, show (0 : Int) ≤ 8 by decide, show (8 : Int) ≤ 100000000 by decide⟩
  refine (take_simple h rfl (show 1 ≤ 1000000 by decide) (show (0 : Int) ≤ N by omega) (show (N : Int) ≤ 10000000000 by omega) 8 8 (by decide) (by decide) rfl 1 N ⟨true, 0, N, 0, 0⟩ f rfl rfl rfl (by show 0 + up8 N = _; rw [hN8]; omega) (show 1 ≤ 1 by decide) (by show ((8 : Nat) : Int) ≤ 2 * (N + up8 8) + 64 - N; unfold up8; omega) hO).mono ?_
  rintro e w' ⟨rfl, hU, vr4, vb4, vf4, hL, hO'⟩
  refine ⟨rfl, hU, vr4, vb4, vf4, ?_, hO'⟩
  have e1 : ((firstSto N N).fresh 8).laid ((firstSto N N).blks.length + 1) 1 0 N 8 = twoSto N := by
    have er : layRow (List.replicate N 0) N 8 = List.replicate (N + 8) 0 := by
      have := layRow_end (List.replicate N 0) 8
      rw [List.length_replicate, List.replicate_append_replicate] at this
      exact this
    show (⟨layRow (List.replicate N 0) N 8, ⟨false, 0, 0, 2, 1⟩, [⟨true, 0, N, 0, 2⟩, ⟨true, N, 8, 1, 0⟩], [], N + up8 8, 2, false⟩ : Sto) = _
    rw [er]; rfl
  rw [← e1]; exact hL
theorem fit_two (N : Nat) (hN1 : N ≤ 1000000) (row : List Nat) (hr : row.length = N + 8) (hb : ∀ x ∈ row, x < 256) : Fit { twoSto N with row := row } := by
  refine ⟨show 2 ≤ 1000000000 by decide, show row.length ≤ _ by omega, hb, show (0 : Int) ≤ N + 8 by omega, show (N : Int) + 8 ≤ _ by omega, ?_⟩
  intro k b hb
  rcases get_two (c := ⟨true, 0, N, 0, 2⟩) (d := ⟨true, N, 8, 1, 0⟩) rfl hb with rfl | rfl | rfl
  · exact ⟨Int.le_refl _, show (0 : Int) ≤ 1000000000000 by decide, Int.le_refl _, show (0 : Int) ≤ 100000000 by decide⟩
  · exact ⟨Int.le_refl _, show (0 : Int) ≤ 1000000000000 by decide, show (0 : Int) ≤ N by omega, show (N : Int) ≤ 100000000 by omega⟩
  · exact ⟨show (0 : Int) ≤ N by omega, show (N : Int) ≤ 1000000000000 by omega, show (0 : Int) ≤ 8 by decide, show (8 : Int) ≤ 100000000 by decide⟩
end Go.Proofs.Ytenbjlmomkiknab.W
