/- Package store: Len, Load, Save and their errors, Span behind Pack, over what all Ids hold. -/
import Derived.Test.YtenbjlmomkiknabS6r
namespace Go.Proofs.Ytenbjlmomkiknab.W
open Go.ChangeShapes Go.WideShapes Go.RowKit Go.Shelf
set_option linter.unusedVariables false
section
variable {W : World} {sb : Nat} {S : Nat → Prop} {A : List (Option (List Nat))} {U N : Nat}
theorem len_st (h : St W S sb A U N) (id : Nat) (x : List Nat) (hx : A[id]? = some (some x)) : Calls Try.prog 28 #[.pointer (some ⟨sb, 0, none⟩), .int .i64 id] W fun e w' => e = .returned (.tuple #[.int .i64 x.length, .int .i64 0]) ∧ w' = W := by
  obtain ⟨s, E, vr, vb, vf, hL, hO, f⟩ := h
  have hheld : held s id = some x := by rw [f.all.2, hx]; rfl
  obtain ⟨b, hb, hlv, hxs⟩ := held_some hheld
  obtain ⟨p, l, hp, hl, hin⟩ := fine_in f.good hb hlv
  have hxl : x.length = l := by rw [hxs, hp, hl, Int.toNat_natCast, Int.toNat_natCast]; exact seg_len _ _ _ hin
  have := len_some hL f.fit.len id b (ext_of hb hlv)
  rw [hl] at this
  rw [hxl]
  exact this
/-- the error of reaching so many bytes of an Id -/
def errA (A : List (Option (List Nat))) (id off wd : Int) : Int := if id < 0 then 30 else match (A[id.toNat]?).getD none with | none => 30 | some x => reachE x.length off wd
theorem part_st (h : St W S sb A U N) (id off wd : Int) (he : errA A id off wd ≠ 0) : Calls Try.prog 54 #[.pointer (some ⟨sb, 0, none⟩), .int .i64 id, .int .i64 off, .int .i64 wd] W fun e w' => e = .returned (.tuple #[.slice none 0 0, .int .i64 (errA A id off wd)]) ∧ Below W.heap.size W w' := by
  obtain ⟨s, E, vr, vb, vf, hL, hO, f⟩ := h
  have same : ∀ {v : Int}, (Calls Try.prog 54 #[.pointer (some ⟨sb, 0, none⟩), .int .i64 id, .int .i64 off, .int .i64 wd] W fun e w' => e = .returned (.tuple #[.slice none 0 0, .int .i64 v]) ∧ w' = W) → Calls Try.prog 54 #[.pointer (some ⟨sb, 0, none⟩), .int .i64 id, .int .i64 off, .int .i64 wd] W fun e w' => e = .returned (.tuple #[.slice none 0 0, .int .i64 v]) ∧ Below W.heap.size W w' := by
    intro v c
    refine c.mono ?_
    rintro e w' ⟨rfl, rfl⟩
    exact ⟨rfl, Below.refl _ _⟩
  have hnone : s.ext id = none → errA A id off wd = 30 → Calls Try.prog 54 #[.pointer (some ⟨sb, 0, none⟩), .int .i64 id, .int .i64 off, .int .i64 wd] W fun e w' => e = .returned (.tuple #[.slice none 0 0, .int .i64 (errA A id off wd)]) ∧ Below W.heap.size W w' := by
    intro h1 h2
    rw [h2]
    exact same (part_none hL f.fit.len id off wd h1)
  by_cases c : id < 0
  · exact hnone (ext_no (.inl c)) (by unfold errA; rw [if_pos c])
  · obtain ⟨k, rfl⟩ : ∃ k : Nat, id = k := ⟨id.toNat, by omega⟩
    cases ha : (A[k]?).getD none with
    | none => exact hnone (ext_no (.inr (by rw [f.all.2]; exact ha))) (by unfold errA; rw [if_neg c, Int.toNat_natCast, ha])
    | some x =>
      have hheld : held s k = some x := by rw [f.all.2, ha]
      obtain ⟨b, hb, hlv, hxs⟩ := held_some hheld
      obtain ⟨p, l, hp, hl, hin⟩ := fine_in f.good hb hlv
      have hxl : x.length = l := by rw [hxs, hp, hl, Int.toNat_natCast, Int.toNat_natCast]; exact seg_len _ _ _ hin
      have e0 : errA A k off wd = reachE l off wd := by unfold errA; rw [if_neg c, Int.toNat_natCast, ha]; simp only []; rw [hxl]
      rw [e0] at he ⊢
      have hx := ext_of hb hlv
      unfold reachE at he ⊢
      by_cases c1 : wd = 1 ∨ wd = 2 ∨ wd = 4 ∨ wd = 8
      · rw [if_neg (not_not_intro c1)] at he ⊢
        by_cases c2 : off % wd ≠ 0
        · rw [if_pos c2]
          exact same (part_align hL f.fit.len k off wd b hx c1 c2)
        · rw [if_neg c2] at he ⊢
          by_cases c3 : off < 0 ∨ off > (l : Int) - wd
          · rw [if_pos c3]
            exact part_index hL f.fit k off wd b hx c1 (Decidable.not_not.1 c2) (by rw [hl]; exact c3)
          · rw [if_neg c3] at he
            exact absurd rfl he
      · rw [if_pos c1]
        exact same (part_kind hL f.fit.len k off wd b hx c1)
theorem load_st_err (h : St W S sb A U N) (id off wd : Int) (he : errA A id off wd ≠ 0) : Calls Try.prog 24 #[.pointer (some ⟨sb, 0, none⟩), .int .i64 id, .int .i64 off, .int .i64 wd] W fun e w' => e = .returned (.tuple #[.int .u64 0, .int .i64 (errA A id off wd)]) ∧ Below W.heap.size W w' :=
  load_err _ (by simpa using he) _ _ _ _ _ (part_st h id off wd he)
theorem save_st_err (h : St W S sb A U N) (id off wd : Int) (v : Value) (he : errA A id off wd ≠ 0) : Calls Try.prog 25 #[.pointer (some ⟨sb, 0, none⟩), .int .i64 id, .int .i64 off, .int .i64 wd, v] W fun e w' => e = .returned (.int .i64 (errA A id off wd)) ∧ Below W.heap.size W w' :=
  save_err _ _ _ _ _ v (part_st h id off wd he)
theorem errA_ok (id off wd : Int) (h : errA A id off wd = 0) : ∃ (k o d : Nat) (x : List Nat), id = k ∧ off = o ∧ wd = d ∧ A[k]? = some (some x) ∧ (d = 1 ∨ d = 2 ∨ d = 4 ∨ d = 8) ∧ o % d = 0 ∧ o + d ≤ x.length := by
  unfold errA at h
  by_cases c : id < 0
  · rw [if_pos c] at h; cases h
  · rw [if_neg c] at h
    cases ha : (A[id.toNat]?).getD none with
    | none => rw [ha] at h; cases h
    | some x =>
      rw [ha] at h
      simp only [] at h
      unfold reachE at h
      by_cases c1 : wd = 1 ∨ wd = 2 ∨ wd = 4 ∨ wd = 8
      · rw [if_neg (not_not_intro c1)] at h
        by_cases c2 : off % wd ≠ 0
        · rw [if_pos c2] at h; cases h
        · rw [if_neg c2] at h
          by_cases c3 : off < 0 ∨ off > (x.length : Int) - wd
          · rw [if_pos c3] at h; cases h
          · have c2' := Decidable.not_not.1 c2
            refine ⟨id.toNat, off.toNat, wd.toNat, x, by omega, by omega, by omega, ?_, by omega, ?_, by omega⟩
            · cases e : A[id.toNat]? with
              | none => rw [e] at ha; cases ha
              | some y => rw [e] at ha; rw [← ha]; rfl
            · rcases c1 with rfl | rfl | rfl | rfl
              · show off.toNat % 1 = 0; omega
              · show off.toNat % 2 = 0; omega
              · show off.toNat % 4 = 0; omega
              · show off.toNat % 8 = 0; omega
      · rw [if_pos c1] at h; cases h
/-- packed: the row has no byte too many -/
def StT (W : World) (S : Nat → Prop) (sb : Nat) (A : List (Option (List Nat))) (U N : Nat) : Prop := ∃ s E vr vb vf, Lay W sb vr vb vf s ∧ Own S sb vr vb vf ∧ Fine s E A U N ∧ s.row.length = sumA A
theorem StT.st (h : StT W S sb A U N) : St W S sb A U N := by
  obtain ⟨s, E, vr, vb, vf, hL, hO, f, _⟩ := h
  exact ⟨s, E, vr, vb, vf, hL, hO, f⟩
theorem pack_stT (h : St W S sb A U N) : Calls Try.prog 27 #[.pointer (some ⟨sb, 0, none⟩)] W fun e w' => e = .returned (.tuple #[]) ∧ Upd S W w' ∧ StT w' S sb A U N := by
  obtain ⟨s, E, vr, vb, vf, hL, hO, f⟩ := h
  refine (pack_c hL f.fit (ring_pk f.good.rng) hO).mono ?_
  rintro e w' ⟨rfl, hU, vr', hL', hO'⟩
  have hrow : (pkd s E).row.length = sumA A := by rw [pkd_row f.good.rng, enE_sum, f.sum]
  refine ⟨rfl, hU, _, packE E, vr', vb, vf, hL', hO', ⟨good_packed f.good, ⟨?_, ?_⟩, ?_, ?_, ?_, f.top, f.num, f.u9, f.n9⟩, hrow⟩
  · exact (packN_blks _).trans f.all.1
  · intro i; rw [pack_held f.good i]; exact f.all.2 i
  · rw [packE_sum]; exact f.sum
  · intro e he
    obtain ⟨x, hx, hl⟩ := packE_lens e he
    rw [← hl]; exact f.lens x hx
  · rw [hrow]
    have := f.top
    omega
theorem span_stT (h : StT W S sb A U N) : Calls Try.prog 31 #[.pointer (some ⟨sb, 0, none⟩)] W fun e w' => e = .returned (.int .i64 (sumA A : Nat)) ∧ w' = W := by
  obtain ⟨s, E, vr, vb, vf, hL, hO, f, hr⟩ := h
  rw [← hr]
  exact span_c hL
end
end Go.Proofs.Ytenbjlmomkiknab.W
