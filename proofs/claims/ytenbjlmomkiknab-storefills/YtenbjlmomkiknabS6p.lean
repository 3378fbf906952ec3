/- Package store: Give and Pack over what all Ids hold. -/
import Derived.Test.YtenbjlmomkiknabS6o
import Derived.Test.YtenbjlmomkiknabS5s
import Derived.Test.YtenbjlmomkiknabS6a
namespace Go.Proofs.Ytenbjlmomkiknab.W
open Go.ChangeShapes Go.WideShapes Go.RowKit Go.Shelf
set_option linter.unusedVariables false
section
variable {s : Sto} {E : List Ex}
theorem del_mem {k : Nat} (hk : k < E.length) (hd : ((ring E).map Ex.n).Nodup) (m : Nat) : m ∈ numE (E.eraseIdx k) ↔ m ∈ numE E ∧ m ≠ nm E (k + 1) := by
  have hk1 : k + 1 < (ring E).length := by rw [ring_len]; omega
  constructor
  · intro h
    obtain ⟨i, hi, e⟩ := List.mem_iff_getElem.1 h
    obtain ⟨h2, h3⟩ := numE_get (E := E.eraseIdx k) (i := i) (n := m) (by rw [List.getElem?_eq_getElem hi, e])
    have h4 := rg_get h2
    rw [del_get hk] at h4
    by_cases c : i ≤ k
    · rw [if_pos c] at h4
      have h5 := (List.getElem?_eq_some_iff.1 h4).1
      have h6 := rg_of h4
      rw [h3, ← h6]
      refine ⟨numE_mem h5, ?_⟩
      rw [nm_rg hk1]
      intro e2
      have := rg_inj hd h5 hk1 e2
      omega
    · rw [if_neg c] at h4
      have h5 := (List.getElem?_eq_some_iff.1 h4).1
      have h6 := rg_of h4
      rw [h3, ← h6]
      refine ⟨numE_mem h5, ?_⟩
      rw [nm_rg hk1]
      intro e2
      have := rg_inj hd h5 hk1 e2
      omega
  · rintro ⟨h, hne⟩
    obtain ⟨i, hi, e⟩ := List.mem_iff_getElem.1 h
    obtain ⟨h2, h3⟩ := numE_get (E := E) (i := i) (n := m) (by rw [List.getElem?_eq_getElem hi, e])
    have hik : i ≠ k + 1 := by rintro rfl; exact hne (by rw [nm_rg hk1]; exact h3)
    rw [h3]
    by_cases c : i ≤ k
    · exact List.mem_map_of_mem (List.mem_of_getElem? (i := i) (by rw [del_get hk, if_pos c]; exact rg_get h2))
    · exact List.mem_map_of_mem (List.mem_of_getElem? (i := i - 1) (by rw [del_get hk, if_neg (by omega), show i - 1 + 1 = i by omega]; exact rg_get h2))
theorem sumE_del {k : Nat} (hk : k < E.length) : sumE (E.eraseIdx k) + up8N (rg E (k + 1)).l = sumE E := by
  induction E generalizing k with
  | nil => exact absurd hk (by simp)
  | cons a E ih =>
    cases k with
    | zero =>
      show sumE E + up8N a.l = up8N a.l + sumE E
      omega
    | succ k =>
      have := ih (k := k) (by simpa using hk)
      have h1 : rg (a :: E) (k + 1 + 1) = rg E (k + 1) := rfl
      have h2 : sumE ((a :: E).eraseIdx (k + 1)) = up8N a.l + sumE (E.eraseIdx k) := rfl
      have h3 : sumE (a :: E) = up8N a.l + sumE E := rfl
      rw [h1, h2, h3]; omega
/-- blocks but for where they lead -/
def Like (s t : Sto) : Prop := t.row = s.row ∧ ∀ m b, s.get m = some b → ∃ b', t.get m = some b' ∧ b'.live = b.live ∧ b'.pos = b.pos ∧ b'.len = b.len
theorem gone_good {t : Sto} {E' : List Ex} {id u : Nat} {free' : List Int} (g : Good s E) (R : Ring t E') (hm : ∀ m, m ∈ numE E' ↔ m ∈ numE E ∧ m ≠ id + 1) (hid : id < s.blks.length) (hlive : ∃ b, s.blks[id]? = some b ∧ b.live = true) (hlen : t.blks.length = s.blks.length) (hlike : Like s t) (hget : ∀ m, m ∉ numE E → t.get m = s.get m) (hp : free'.Perm (s.free ++ [(id : Int)])) (hh : IsHeap free' free'.length) (hsum : sumE E' + u = sumE E) :
    Good (({ t with blks := t.blks.set id noBlk, used := s.used - u } : Sto).fr free') E' ∧ ∀ i, held (({ t with blks := t.blks.set id noBlk, used := s.used - u } : Sto).fr free') i = if i = id then none else held s i := by
  obtain ⟨b0, hb0, hl0⟩ := hlive
  have hidf : (id : Int) ∉ s.free := by
    rw [g.free]
    rintro ⟨i, e, hb⟩
    have : id = i := by omega
    subst this
    rw [hb0] at hb; cases hb; cases hl0
  have hs : ∀ i, i ≠ id → (t.blks.set id noBlk)[i]? = t.blks[i]? := fun i hi => blks_set_get _ _ _ hi
  have hi' : (t.blks.set id noBlk)[id]? = some noBlk := List.getElem?_set_self (by omega)
  have hout : id + 1 ∉ numE E' := fun h => ((hm _).1 h).2 rfl
  have hzero : ∀ i b, i ≠ id → t.blks[i]? = some b → i + 1 ∉ numE E' → s.blks[i]? = some b ∧ (b = noBlk ∨ b = ⟨true, 0, 0, 0, 0⟩) := by
    intro i b hi hb hn
    have hn' : i + 1 ∉ numE E := fun h => hn ((hm _).2 ⟨h, by omega⟩)
    have e := hget (i + 1) hn'
    rw [get_blks, get_blks] at e
    rw [e] at hb
    exact ⟨hb, g.zero i b hb hn'⟩
  refine ⟨Ring.good (R.congr ?_ rfl rfl) ⟨?_, hh, ?_, ?_, ?_⟩, ?_⟩
  · intro m hm'
    by_cases c : m = 0
    · rw [c]; rfl
    · obtain ⟨k, rfl⟩ : ∃ k, m = k + 1 := ⟨m - 1, by omega⟩
      rw [get_blks, get_blks]
      exact hs k (by rintro rfl; exact hout hm')
  · intro i b hb hn
    by_cases c : i = id
    · subst c
      change (t.blks.set i noBlk)[i]? = _ at hb
      rw [hi'] at hb; cases hb; exact .inl rfl
    · change (t.blks.set id noBlk)[i]? = _ at hb
      rw [hs i c] at hb
      exact (hzero i b c hb hn).2
  · exact hp.nodup_iff.2 (List.nodup_append.2 ⟨g.nodupF, by simp, by rintro a ha b hb; simp at hb; rintro rfl; rw [hb] at ha; exact hidf ha⟩)
  · intro x
    show x ∈ free' ↔ ∃ i : Nat, x = i ∧ (t.blks.set id noBlk)[i]? = some noBlk
    rw [hp.mem_iff, List.mem_append, List.mem_singleton, g.free]
    constructor
    · rintro (⟨i, e, hb⟩ | e)
      · have hi : i ≠ id := by rintro rfl; rw [hb0] at hb; cases hb; cases hl0
        refine ⟨i, e, ?_⟩
        rw [hs i hi]
        by_cases c : i + 1 ∈ numE E
        · obtain ⟨b, e2, l2⟩ := ring_live g.rng i c
          rw [hb] at e2; cases e2; cases l2
        · have e3 := hget (i + 1) c
          rw [get_blks, get_blks] at e3
          rw [e3]; exact hb
      · exact ⟨id, e, hi'⟩
    · rintro ⟨i, e, hb⟩
      by_cases c : i = id
      · right; rw [e, c]
      · left
        rw [hs i c] at hb
        by_cases c2 : i + 1 ∈ numE E'
        · obtain ⟨b, e2, l2⟩ := ring_live R i c2
          rw [hb] at e2; cases e2; cases l2
        · exact ⟨i, e, (hzero i _ c hb c2).1⟩
  · show s.used - u = _
    rw [g.used]
    change ((sumE E : Nat) : Int) - u = ((sumE E' : Nat) : Int)
    omega
  · intro i
    by_cases c : i = id
    · rw [if_pos c, c]
      unfold held
      show (match (t.blks.set id noBlk)[id]? with | some b => _ | none => _) = _
      rw [hi']; rfl
    · rw [if_neg c]
      unfold held
      show (match (t.blks.set id noBlk)[i]? with | some b => if b.live = true then some (seg t.row b.pos.toNat b.len.toNat) else none | none => none) = _
      rw [hs i c, hlike.1]
      cases e : s.blks[i]? with
      | none =>
        have : t.blks[i]? = none := by
          rw [List.getElem?_eq_none_iff] at e ⊢; omega
        rw [this]
      | some b =>
        obtain ⟨b', e1, l1, l2, l3⟩ := hlike.2 (i + 1) b (by rw [get_blks]; exact e)
        rw [get_blks] at e1
        rw [e1]
        simp only [l1, l2, l3]
theorem unlinked_like {n bk nx : Nat} {bb bx : Blk} (hb : s.get bk = some bb) (hx : s.get nx = some bx) : Like s (s.unlinked n bk nx) := by
  refine ⟨unlinked_row _ _ _, fun m b h => ?_⟩
  rw [unlinked_get hb hx]
  by_cases c1 : m = nx
  · subst c1
    rw [if_pos rfl]
    rw [hx] at h; cases h
    by_cases c2 : m = bk
    · subst c2
      rw [hb] at hx; cases hx
      exact ⟨_, rfl, by simp, by simp, by simp⟩
    · exact ⟨_, rfl, by simp [c2], by simp [c2], by simp [c2]⟩
  · rw [if_neg c1]
    by_cases c2 : m = bk
    · subst c2
      rw [hb] at h; cases h
      exact ⟨_, if_pos rfl, rfl, rfl, rfl⟩
    · exact ⟨b, by rw [if_neg c2]; exact h, rfl, rfl, rfl⟩
theorem pack_held (g : Good s E) (i : Nat) : held (pkd s E) i = held s i := by
  by_cases c : i + 1 ∈ numE E
  · obtain ⟨k, hk, hki⟩ := mem_rg c (by omega)
    have hk' : k + 1 < (ring (packE E)).length := by rw [ring_len, packE_len]; rw [ring_len] at hk; omega
    rw [held_rg g.rng hk hki, held_rg (ring_packed g.rng) hk' (by rw [packE_rg hk]; exact hki), packE_rg hk]
    show some (seg ((pkE s E (numE E).length).row.take (enE E (numE E).length)) (enE E (k + 1)) (rg E (k + 1)).l) = _
    have hb := (ring_bytes g.rng (numE E).length (by rw [numlen]; omega)).2 (k + 1) (by rw [numlen]; omega)
    have hle := enE_le_all (E := E) hk
    have hu := up8N_ge (rg E (k + 1)).l
    rw [seg_take _ _ _ _ (by rw [numlen]; omega), hb]
  · refine held_get i (by rw [get_blks, get_blks]; exact pkd_out i c) ?_
    intro b hb hl
    rw [get_blks] at hb
    rcases g.zero i b hb c with rfl | rfl
    · cases hl
    · rfl
end
section
variable {W : World} {sb : Nat} {S : Nat → Prop} {A : List (Option (List Nat))} {U N : Nat}
theorem pack_st (h : St W S sb A U N) : Calls Try.prog 27 #[.pointer (some ⟨sb, 0, none⟩)] W fun e w' => e = .returned (.tuple #[]) ∧ Upd S W w' ∧ St w' S sb A U N := by
  obtain ⟨s, E, vr, vb, vf, hL, hO, f⟩ := h
  refine (pack_c hL f.fit (ring_pk f.good.rng) hO).mono ?_
  rintro e w' ⟨rfl, hU, vr', hL', hO'⟩
  refine ⟨rfl, hU, _, packE E, vr', vb, vf, hL', hO', good_packed f.good, ⟨?_, ?_⟩, ?_, ?_, ?_, f.top, f.num, f.u9, f.n9⟩
  · exact (packN_blks _).trans f.all.1
  · intro i; rw [pack_held f.good i]; exact f.all.2 i
  · rw [packE_sum]; exact f.sum
  · intro e he
    obtain ⟨x, hx, hl⟩ := packE_lens e he
    rw [← hl]; exact f.lens x hx
  · rw [pkd_row f.good.rng, enE_sum, f.sum]
    have := f.top
    omega
end
end Go.Proofs.Ytenbjlmomkiknab.W
