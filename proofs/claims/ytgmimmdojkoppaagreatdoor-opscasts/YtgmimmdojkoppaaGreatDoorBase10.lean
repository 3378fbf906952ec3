import Derived.Test.YtgmimmdojkoppaaGreatDoorBase9
import Derived.Test.YtgmimmdojkoppaaGreatDoorBase5
import Derived.Test.YtgmimmdojkoppaaGreatDoorBase6
import Derived.Test.YtgmimmdojkoppaaGreatDoorBase4
import Derived.Test.YtgmimmdojkoppaaGreatDoorBase7
import Derived.Test.YtgmimmdojkoppaaGreatDoorBase2
/- Package store: Take over what all Ids hold. -/
namespace Go.Proofs.YtgmimmdojkoppaaGreatDoor.W
open Go.ChangeShapes Go.WideShapes Go.RowKit Go.Shelf
set_option linter.unusedVariables false
section
variable {W : World} {sb : Nat} {S : Nat → Prop} {A : List (Option (List Nat))} {U N : Nat}
/-- behind leastId -/
def Mid (s : Sto) (E : List Ex) (A : List (Option (List Nat))) (s1 : Sto) : Prop := Half s1 E (leastA A) ∧ (∀ i, held s1 i = held s i) ∧ s1.blks.length = (if leastA A < A.length then A.length else A.length + 1) ∧ s1.row = s.row ∧ s1.used = s.used
theorem least_c {s : Sto} {E : List Ex} {vr vb vf : Value} (hL : Lay W sb vr vb vf s) (hO : Own S sb vr vb vf) (f : Fine s E A U N) :
    Calls Tryz.prog 221 #[.pointer (some ⟨sb, 0, none⟩)] W fun e w' => e = .returned (.int .i64 (leastA A : Nat)) ∧ Upd S W w' ∧ ∃ s1, Mid s E A s1 ∧ ∃ vr1 vb1 vf1, Lay w' sb vr1 vb1 vf1 s1 ∧ Own (Nx S W w') sb vr1 vb1 vf1 := by
  have h3 := f.num; have h5 := f.n9; have h7 := f.all.1
  by_cases c : s.free = []
  · have hl := least_none f.all f.good c
    have hh := half_new f.all f.good c
    refine (leastId_new hL c (by omega) hO).mono ?_
    rintro e w' ⟨rfl, hU, vb', hL', hO'⟩
    refine ⟨by rw [hl, h7], hU, _, ⟨?_, hh.2, ?_, rfl, rfl⟩, vr, vb', vf, hL', hO'⟩
    · rw [hl, ← h7]; exact hh.1
    · rw [hl, if_neg (by omega)]
      show (s.blks ++ [noBlk]).length = _
      rw [List.length_append, h7]; rfl
  · have h0 : 0 < s.free.length := by
      cases e : s.free with
      | nil => exact absurd e c
      | cons a b => simp
    obtain ⟨hl, hlt⟩ := least_some f.all f.good h0
    have hfl : s.free.length ≤ s.blks.length := by
      have hs : s.free ⊆ (List.range s.blks.length).map (fun i : Nat => (i : Int)) := by
        intro x hx
        obtain ⟨i, e, hb⟩ := (f.good.free x).1 hx
        exact List.mem_map.2 ⟨i, List.mem_range.2 (List.getElem?_eq_some_iff.1 hb).1, e.symm⟩
      have := f.good.nodupF.length_le_of_subset hs
      simpa using this
    refine (leastId_pop hL (s.free.length - 1) (by omega) (by omega) f.good.heap hO).mono ?_
    rintro e w' ⟨rfl, hU, free', vf', hp', hh', hL', hO'⟩
    have hh := half_pop f.good hl hp' hh'
    refine ⟨by rw [hl], hU, _, ⟨hh.1, hh.2, ?_, rfl, rfl⟩, vr, vb, vf', hL', hO'.mono (fun k hk => .inl hk)⟩
    rw [if_pos hlt]; exact h7
theorem take_st (h : St W S sb A U N) (n : Nat) (hn : n ≤ 8388608) (hU : sumA A + up8N n ≤ U) (hN : A.length < N) :
    Calls Tryz.prog 181 #[.pointer (some ⟨sb, 0, none⟩), .int .i64 n] W fun e w' => e = .returned (.tuple #[.int .i64 (leastA A : Nat), .int .i64 0]) ∧ Upd S W w' ∧ St w' (Nx S W w') sb (putA A (leastA A) (some (List.replicate n 0))) U N := by
  obtain ⟨s, E, vr, vb, vf, hL, hO, f⟩ := h
  have h2 := f.top; have h3 := f.num; have h4 := f.u9; have h5 := f.n9; have h6 := f.used; have h7 := f.all.1; have h8 := f.row
  have hle : leastA A ≤ A.length := List.findIdx_le_length
  have cl := least_c hL hO f
  have hP : ∀ s1, Mid s E A s1 → leastA A < s1.blks.length ∧ s1.blks.length ≤ 100000000 ∧ 0 ≤ s1.used ∧ s1.used ≤ 100000000000 := by
    rintro s1 ⟨_, _, e, _, e2⟩
    rw [e2, h6, e]
    split <;> exact ⟨by omega, by omega, by omega, by omega⟩
  have hlenput : (putA A (leastA A) (some (List.replicate n 0))).length ≤ N := by rw [putA_len]; split <;> omega
  have hsumput : sumA (putA A (leastA A) (some (List.replicate n 0))) = sumA A + up8N n := by rw [sumA_put, List.length_replicate]
  by_cases c : n = 0
  · subst c
    refine (take_g0 (leastA A) (by omega) (Mid s E A) hP cl).mono ?_
    rintro e w' ⟨rfl, hU', s1, ⟨hh, hheld, hbl, hrow, hus⟩, vr4, vb4, vf4, hL4, hO4⟩
    have hid := (hP s1 ⟨hh, hheld, hbl, hrow, hus⟩).1
    have hz := half_zero hh hid
    refine ⟨rfl, hU', _, E, vr4, vb4, vf4, hL4, hO4, hz.1, ?_, ?_, f.lens, ?_, by omega, hlenput, h4, h5⟩
    · refine all_put (s := s) (s1 := s1) f.all hle ?_ ?_
      · show (s1.blks.set _ _).length = _
        rw [List.length_set]; exact hbl
      · intro i; rw [hz.2 i, hheld]; rfl
    · rw [hsumput, f.sum]; rfl
    · show s1.row.length ≤ _
      rw [hrow]; exact h8
  · have hu : up8 (n : Int) = (up8N n : Nat) := up8N_eq n
    refine (take_g (n : Int) (up8N n) (by omega) (by omega) hu (leastA A) (by omega) (Mid s E A) hP (fun s1 s4 bk nx q => skG (s1.took (leastA A) n) E (up8N n : Nat) s4 bk nx q) cl ?_).mono ?_
    · rintro s1 ⟨hh, hheld, hbl, hrow, hus⟩ W3 S3 vr3 vb3 vf3 hL3 hO3
      have hid := (hP s1 ⟨hh, hheld, hbl, hrow, hus⟩)
      have R := half_took hh (n : Int)
      have hus3 : (s1.took (leastA A) n).used = ((sumA A + up8N n : Nat) : Int) := by
        show s1.used + up8 (n : Int) = _
        rw [hu, hus, h6]; push_cast; rfl
      have fit : Fit (s1.took (leastA A) n) := by
        refine ring_fit R f.lens ?_ ?_ (by rw [hus3]; omega) (by rw [hus3]; omega) ?_
        · show s1.row.length ≤ _
          rw [hrow]; omega
        · show (s1.blks.set _ _).length ≤ _
          rw [List.length_set]; omega
        · intro i b hb hn'
          by_cases ci : i = leastA A
          · subst ci
            rw [← get_blks, took_get_id _ _ hid.1] at hb
            cases hb
            exact ⟨rfl, by show (0 : Int) ≤ (n : Int); omega, by show (n : Int) ≤ _; omega⟩
          · have hb' : s1.blks[i]? = some b := by
              rw [← hb]; exact (blks_set_get _ _ _ ci).symm
            rcases hh.zero i b hb' hn' with rfl | rfl
            · exact ⟨rfl, Int.le_refl _, by decide⟩
            · exact ⟨rfl, Int.le_refl _, by decide⟩
      obtain ⟨e, he, hhand⟩ := R.hand
      obtain ⟨hd, hdl, hde⟩ := List.mem_iff_getElem.1 he
      refine seek_c hL3 fit (ring_pk R) hd (by rw [numlen]; exact hdl) ?_ _ ?_ (took_get_id _ _ hid.1) hh.out hO3
      · rw [hhand, ← hde]
        congr 1
        exact (List.getElem_map ..).symm
      · rw [hus3, numlen, enE_sum, f.sum]; push_cast; omega
    · rintro e w' ⟨rfl, hU', s1, ⟨hh, hheld, hbl, hrow, hus⟩, s4, bk, nx, q, hG, vr4, vb4, vf4, hL4, hO4⟩
      have hid := (hP s1 ⟨hh, hheld, hbl, hrow, hus⟩).1
      obtain ⟨E', g', hd', hl', hs', hb', hr'⟩ := seekG_good hh hid (by omega) hG
      refine ⟨rfl, hU', _, E', vr4, vb4, vf4, hL4, hO4, g', ?_, ?_, ?_, ?_, by omega, hlenput, h4, h5⟩
      · refine all_put (s := s) (s1 := s1) f.all hle (hb'.trans hbl) ?_
        intro i; rw [hd' i, hheld]
      · rw [hsumput, hs', f.sum]
      · intro e he
        rcases hl' e he with h | ⟨x, hx, h⟩
        · omega
        · rw [← h]; exact f.lens x hx
      · refine Nat.le_trans hr' ?_
        rw [hrow, f.sum]; omega
end
end Go.Proofs.YtgmimmdojkoppaaGreatDoor.W
/- Package store: Give and Pack over what all Ids hold. -/
namespace Go.Proofs.YtgmimmdojkoppaaGreatDoor.W
open Go.ChangeShapes Go.WideShapes Go.RowKit Go.Shelf
set_option linter.unusedVariables false
section
variable {s : Sto} {E : List Ex}
theorem del_mem {k : Nat} (hk : k < E.length) (hd : ((ring E).map Ex.n).Nodup) (m : Nat) : m ∈ numE (E.eraseIdx k) ↔ m ∈ numE E ∧ m ≠ nm E (k + 1) := by
  have hk1 : k + 1 < (ring E).length := by rw [ring_len]; omega
  constructor
  · intro h
    obtain ⟨i, hi, e⟩ := List.mem_iff_getElem.1 h
    obtain ⟨h2, h3⟩ := numE_get (E := E.eraseIdx k) (i := i) (n := m) (by rw [List.getElem?_eq_getElem hi, e])
    have h4 := rg_get h2
    rw [del_get hk] at h4
    by_cases c : i ≤ k
    · rw [if_pos c] at h4
      have h5 := (List.getElem?_eq_some_iff.1 h4).1
      have h6 := rg_of h4
      rw [h3, ← h6]
      refine ⟨numE_mem h5, ?_⟩
      rw [nm_rg hk1]
      intro e2
      have := rg_inj hd h5 hk1 e2
      omega
    · rw [if_neg c] at h4
      have h5 := (List.getElem?_eq_some_iff.1 h4).1
      have h6 := rg_of h4
      rw [h3, ← h6]
      refine ⟨numE_mem h5, ?_⟩
      rw [nm_rg hk1]
      intro e2
      have := rg_inj hd h5 hk1 e2
      omega
  · rintro ⟨h, hne⟩
    obtain ⟨i, hi, e⟩ := List.mem_iff_getElem.1 h
    obtain ⟨h2, h3⟩ := numE_get (E := E) (i := i) (n := m) (by rw [List.getElem?_eq_getElem hi, e])
    have hik : i ≠ k + 1 := by rintro rfl; exact hne (by rw [nm_rg hk1]; exact h3)
    rw [h3]
    by_cases c : i ≤ k
    · exact List.mem_map_of_mem (List.mem_of_getElem? (i := i) (by rw [del_get hk, if_pos c]; exact rg_get h2))
    · exact List.mem_map_of_mem (List.mem_of_getElem? (i := i - 1) (by rw [del_get hk, if_neg (by omega), show i - 1 + 1 = i by omega]; exact rg_get h2))
theorem sumE_del {k : Nat} (hk : k < E.length) : sumE (E.eraseIdx k) + up8N (rg E (k + 1)).l = sumE E := by
  induction E generalizing k with
  | nil => exact absurd hk (by simp)
  | cons a E ih =>
    cases k with
    | zero =>
      show sumE E + up8N a.l = up8N a.l + sumE E
      omega
    | succ k =>
      have := ih (k := k) (by simpa using hk)
      have h1 : rg (a :: E) (k + 1 + 1) = rg E (k + 1) := rfl
      have h2 : sumE ((a :: E).eraseIdx (k + 1)) = up8N a.l + sumE (E.eraseIdx k) := rfl
      have h3 : sumE (a :: E) = up8N a.l + sumE E := rfl
      rw [h1, h2, h3]; omega
/-- blocks but for where they lead -/
def Like (s t : Sto) : Prop := t.row = s.row ∧ ∀ m b, s.get m = some b → ∃ b', t.get m = some b' ∧ b'.live = b.live ∧ b'.pos = b.pos ∧ b'.len = b.len
theorem gone_good {t : Sto} {E' : List Ex} {id u : Nat} {free' : List Int} (g : Good s E) (R : Ring t E') (hm : ∀ m, m ∈ numE E' ↔ m ∈ numE E ∧ m ≠ id + 1) (hid : id < s.blks.length) (hlive : ∃ b, s.blks[id]? = some b ∧ b.live = true) (hlen : t.blks.length = s.blks.length) (hlike : Like s t) (hget : ∀ m, m ∉ numE E → t.get m = s.get m) (hp : free'.Perm (s.free ++ [(id : Int)])) (hh : IsHeap free' free'.length) (hsum : sumE E' + u = sumE E) :
    Good (({ t with blks := t.blks.set id noBlk, used := s.used - u } : Sto).fr free') E' ∧ ∀ i, held (({ t with blks := t.blks.set id noBlk, used := s.used - u } : Sto).fr free') i = if i = id then none else held s i := by
  obtain ⟨b0, hb0, hl0⟩ := hlive
  have hidf : (id : Int) ∉ s.free := by
    rw [g.free]
    rintro ⟨i, e, hb⟩
    have : id = i := by omega
    subst this
    rw [hb0] at hb; cases hb; cases hl0
  have hs : ∀ i, i ≠ id → (t.blks.set id noBlk)[i]? = t.blks[i]? := fun i hi => blks_set_get _ _ _ hi
  have hi' : (t.blks.set id noBlk)[id]? = some noBlk := List.getElem?_set_self (by omega)
  have hout : id + 1 ∉ numE E' := fun h => ((hm _).1 h).2 rfl
  have hzero : ∀ i b, i ≠ id → t.blks[i]? = some b → i + 1 ∉ numE E' → s.blks[i]? = some b ∧ (b = noBlk ∨ b = ⟨true, 0, 0, 0, 0⟩) := by
    intro i b hi hb hn
    have hn' : i + 1 ∉ numE E := fun h => hn ((hm _).2 ⟨h, by omega⟩)
    have e := hget (i + 1) hn'
    rw [get_blks, get_blks] at e
    rw [e] at hb
    exact ⟨hb, g.zero i b hb hn'⟩
  refine ⟨Ring.good (R.congr ?_ rfl rfl) ⟨?_, hh, ?_, ?_, ?_⟩, ?_⟩
  · intro m hm'
    by_cases c : m = 0
    · rw [c]; rfl
    · obtain ⟨k, rfl⟩ : ∃ k, m = k + 1 := ⟨m - 1, by omega⟩
      rw [get_blks, get_blks]
      exact hs k (by rintro rfl; exact hout hm')
  · intro i b hb hn
    by_cases c : i = id
    · subst c
      change (t.blks.set i noBlk)[i]? = _ at hb
      rw [hi'] at hb; cases hb; exact .inl rfl
    · change (t.blks.set id noBlk)[i]? = _ at hb
      rw [hs i c] at hb
      exact (hzero i b c hb hn).2
  · exact hp.nodup_iff.2 (List.nodup_append.2 ⟨g.nodupF, by simp, by rintro a ha b hb; simp at hb; rintro rfl; rw [hb] at ha; exact hidf ha⟩)
  · intro x
    show x ∈ free' ↔ ∃ i : Nat, x = i ∧ (t.blks.set id noBlk)[i]? = some noBlk
    rw [hp.mem_iff, List.mem_append, List.mem_singleton, g.free]
    constructor
    · rintro (⟨i, e, hb⟩ | e)
      · have hi : i ≠ id := by rintro rfl; rw [hb0] at hb; cases hb; cases hl0
        refine ⟨i, e, ?_⟩
        rw [hs i hi]
        by_cases c : i + 1 ∈ numE E
        · obtain ⟨b, e2, l2⟩ := ring_live g.rng i c
          rw [hb] at e2; cases e2; cases l2
        · have e3 := hget (i + 1) c
          rw [get_blks, get_blks] at e3
          rw [e3]; exact hb
      · exact ⟨id, e, hi'⟩
    · rintro ⟨i, e, hb⟩
      by_cases c : i = id
      · right; rw [e, c]
      · left
        rw [hs i c] at hb
        by_cases c2 : i + 1 ∈ numE E'
        · obtain ⟨b, e2, l2⟩ := ring_live R i c2
          rw [hb] at e2; cases e2; cases l2
        · exact ⟨i, e, (hzero i _ c hb c2).1⟩
  · show s.used - u = _
    rw [g.used]
    change ((sumE E : Nat) : Int) - u = ((sumE E' : Nat) : Int)
    omega
  · intro i
    by_cases c : i = id
    · rw [if_pos c, c]
      unfold held
      show (match (t.blks.set id noBlk)[id]? with | some b => _ | none => _) = _
      rw [hi']; rfl
    · rw [if_neg c]
      unfold held
      show (match (t.blks.set id noBlk)[i]? with | some b => if b.live = true then some (seg t.row b.pos.toNat b.len.toNat) else none | none => none) = _
      rw [hs i c, hlike.1]
      cases e : s.blks[i]? with
      | none =>
        have : t.blks[i]? = none := by
          rw [List.getElem?_eq_none_iff] at e ⊢; omega
        rw [this]
      | some b =>
        obtain ⟨b', e1, l1, l2, l3⟩ := hlike.2 (i + 1) b (by rw [get_blks]; exact e)
        rw [get_blks] at e1
        rw [e1]
        simp only [l1, l2, l3]
theorem unlinked_like {n bk nx : Nat} {bb bx : Blk} (hb : s.get bk = some bb) (hx : s.get nx = some bx) : Like s (s.unlinked n bk nx) := by
  refine ⟨unlinked_row _ _ _, fun m b h => ?_⟩
  rw [unlinked_get hb hx]
  by_cases c1 : m = nx
  · subst c1
    rw [if_pos rfl]
    rw [hx] at h; cases h
    by_cases c2 : m = bk
    · subst c2
      rw [hb] at hx; cases hx
      exact ⟨_, rfl, by simp, by simp, by simp⟩
    · exact ⟨_, rfl, by simp [c2], by simp [c2], by simp [c2]⟩
  · rw [if_neg c1]
    by_cases c2 : m = bk
    · subst c2
      rw [hb] at h; cases h
      exact ⟨_, if_pos rfl, rfl, rfl, rfl⟩
    · exact ⟨b, by rw [if_neg c2]; exact h, rfl, rfl, rfl⟩
end
section
variable {W : World} {sb : Nat} {S : Nat → Prop} {A : List (Option (List Nat))} {U N : Nat}
end
end Go.Proofs.YtgmimmdojkoppaaGreatDoor.W
/- Package store: Give, Len, Used, Load, Save over what all Ids hold. -/
namespace Go.Proofs.YtgmimmdojkoppaaGreatDoor.W
open Go.ChangeShapes Go.WideShapes Go.RowKit Go.Shelf
set_option linter.unusedVariables false
section
variable {s : Sto} {E : List Ex} {A : List (Option (List Nat))} {U N : Nat}
/-- what an Id holds, and its block -/
theorem held_some {id : Nat} {x : List Nat} (h : held s id = some x) : ∃ b, s.blks[id]? = some b ∧ b.live = true ∧ x = seg s.row b.pos.toNat b.len.toNat := by
  unfold held at h
  cases e : s.blks[id]? with
  | none => rw [e] at h; cases h
  | some b =>
    rw [e] at h
    simp only [] at h
    by_cases c : b.live = true
    · rw [if_pos c] at h; cases h; exact ⟨b, rfl, c, rfl⟩
    · rw [if_neg c] at h; cases h
theorem ext_of {id : Nat} {b : Blk} (h : s.blks[id]? = some b) (hl : b.live = true) : s.ext (id : Int) = some b := by
  unfold Sto.ext
  rw [if_neg (by omega), Int.toNat_natCast, h]
  simp [hl]
/-- where an Id's bytes lie: in the ring, or it has none -/
theorem fine_at (g : Good s E) {id : Nat} {b : Blk} (hb : s.blks[id]? = some b) (hl : b.live = true) : (∃ k, k + 1 < (ring E).length ∧ id + 1 = (rg E (k + 1)).n ∧ b = blkOf E (k + 1) (rg E (k + 1))) ∨ (id + 1 ∉ numE E ∧ b = ⟨true, 0, 0, 0, 0⟩) := by
  by_cases c : id + 1 ∈ numE E
  · obtain ⟨k, hk, hki⟩ := mem_rg c (by omega)
    refine .inl ⟨k, hk, hki, ?_⟩
    have := g.get (k + 1) _ (rg_get hk)
    rw [← hki, get_blks, hb] at this
    exact Option.some.inj this
  · refine .inr ⟨c, ?_⟩
    rcases g.zero id b hb c with rfl | rfl
    · cases hl
    · rfl
/-- its place and its bytes, in the row -/
theorem fine_in (g : Good s E) {id : Nat} {b : Blk} (hb : s.blks[id]? = some b) (hl : b.live = true) : ∃ p l : Nat, b.pos = p ∧ b.len = l ∧ p + l ≤ s.row.length := by
  rcases fine_at g hb hl with ⟨k, hk, _, rfl⟩ | ⟨_, rfl⟩
  · have h1 := g.lies.2.2 _ (rg_mem hk)
    have h2 := up8N_ge (rg E (k + 1)).l
    unfold Ex.stop at h1
    exact ⟨_, _, rfl, rfl, by omega⟩
  · exact ⟨0, 0, rfl, rfl, by omega⟩
end
section
variable {W : World} {sb : Nat} {S : Nat → Prop} {A : List (Option (List Nat))} {U N : Nat}
theorem give_st (h : St W S sb A U N) (id : Nat) (x : List Nat) (hx : A[id]? = some (some x)) : Calls Tryz.prog 177 #[.pointer (some ⟨sb, 0, none⟩), .int .i64 id] W fun e w' => e = .returned (.int .i64 0) ∧ Upd S W w' ∧ St w' (Nx S W w') sb (A.set id none) U N := by
  obtain ⟨s, E, vr, vb, vf, hL, hO, f⟩ := h
  have h2 := f.top; have h3 := f.num; have h4 := f.u9; have h5 := f.n9; have h6 := f.used; have h7 := f.all.1; have h8 := f.row
  have hidA := (List.getElem?_eq_some_iff.1 hx).1
  have hAx : A[id] = some x := (List.getElem?_eq_some_iff.1 hx).2
  have hheld : held s id = some x := by rw [f.all.2, hx]; rfl
  obtain ⟨b, hb, hlv, hxs⟩ := held_some hheld
  obtain ⟨p, l, hp, hl, hin⟩ := fine_in f.good hb hlv
  have hxl : x.length = l := by rw [hxs, hp, hl, Int.toNat_natCast, Int.toNat_natCast]; exact seg_len _ _ _ hin
  have hu : up8 b.len = (up8N l : Nat) := by rw [hl]; exact up8N_eq l
  have hsA := sumA_set A id none hidA
  rw [hAx] at hsA
  change _ + up8N x.length = _ + 0 at hsA
  rw [hxl] at hsA
  have hfl : s.free.length ≤ s.blks.length := by
    have hs : s.free ⊆ (List.range s.blks.length).map (fun i : Nat => (i : Int)) := by
      intro x hx
      obtain ⟨i, e, hb⟩ := (f.good.free x).1 hx
      exact List.mem_map.2 ⟨i, List.mem_range.2 (List.getElem?_eq_some_iff.1 hb).1, e.symm⟩
    have := f.good.nodupF.length_le_of_subset hs
    simpa using this
  have hl8 : l ≤ 8388608 := by
    rcases fine_at f.good hb hlv with ⟨k, hk, _, e⟩ | ⟨_, e⟩
    · have h1 : b.len = ((rg E (k + 1)).l : Nat) := by rw [e]; rfl
      have := f.lens _ (rg_memE hk)
      omega
    · have : b.len = 0 := by rw [e]
      omega
  have fin : ∀ (t : Sto) (E' : List Ex) (w' : World) (free' : List Int) (vf' : Value), Ring t E' → (∀ m, m ∈ numE E' ↔ m ∈ numE E ∧ m ≠ id + 1) → t.blks.length = s.blks.length → Like s t → (∀ m, m ∉ numE E → t.get m = s.get m) → sumE E' + up8N l = sumE E → (∀ e ∈ E', e ∈ E) → free'.Perm (s.free ++ [(id : Int)]) → IsHeap free' free'.length → Lay w' sb vr vb vf' (({ t with blks := t.blks.set id noBlk, used := s.used - (up8N l : Nat) } : Sto).fr free') → Own (Nx S W w') sb vr vb vf' → St w' (Nx S W w') sb (A.set id none) U N := by
    intro t E' w' free' vf' R hm hlen hlike hget hsum hsub hpm hhp hL' hO'
    obtain ⟨g', hd'⟩ := gone_good f.good R hm (by omega) ⟨b, hb, hlv⟩ hlen hlike hget hpm hhp hsum
    refine ⟨_, E', vr, vb, vf', hL', hO', g', ⟨?_, ?_⟩, ?_, ?_, ?_, by omega, by rw [List.length_set]; exact h3, h4, h5⟩
    · show (t.blks.set id noBlk).length = _
      rw [List.length_set, List.length_set, hlen, h7]
    · intro i
      rw [hd' i]
      by_cases c : i = id
      · rw [if_pos c, c, List.getElem?_set_self hidA]; rfl
      · rw [if_neg c, List.getElem?_set_ne (by omega)]; exact f.all.2 i
    · have := f.sum; omega
    · intro e he; exact f.lens e (hsub e he)
    · show t.row.length ≤ _
      rw [hlike.1]; exact h8
  rcases fine_at f.good hb hlv with ⟨k, hk, hki, hbk⟩ | ⟨hno, hb0⟩
  · have hkE : k < E.length := by rw [ring_len] at hk; omega
    have hkl : k < (ring E).length := by omega
    have hnk : nm E (k + 1) = id + 1 := by rw [nm_rg hk]; exact hki.symm
    have hll : (rg E (k + 1)).l = l := by
      have h1 : b.len = ((rg E (k + 1)).l : Nat) := by rw [hbk]; rfl
      omega
    have hlpos : 0 < l := by rw [← hll]; exact (f.good.lies.2.1 _ (rg_memE hk)).2.1
    obtain ⟨bb, gb⟩ : ∃ bb, s.get (nm E k) = some bb := ⟨_, by rw [nm_rg hkl]; exact f.good.get k _ (rg_get hkl)⟩
    obtain ⟨bx, gx⟩ : ∃ bx, s.get (nm E (k + 2)) = some bx := by
      by_cases c : k + 2 < (ring E).length
      · exact ⟨_, by rw [nm_rg c]; exact f.good.get (k + 2) _ (rg_get c)⟩
      · rw [nm_out (by omega)]; exact ⟨s.head, rfl⟩
    have hbb : b.back = (nm E k : Nat) := by rw [hbk, blkOf_nm, if_neg (by omega)]; rfl
    have hbn : b.next = (nm E (k + 2) : Nat) := by rw [hbk, blkOf_nm]
    have cu := unlink_c hL (by omega) (id + 1) (nm E k) (nm E (k + 2)) b bb bx (by rw [get_blks]; exact hb) hbb hbn gb gx hO
    have RU := ring_unlinked f.good.rng hkE
    rw [hnk] at RU
    refine (give_c hL (by omega) id (up8N l) b (ext_of hb hlv) (by omega) (by omega) hu (by omega) (by omega) (by omega) f.good.heap (s.unlinked (id + 1) (nm E k) (nm E (k + 2))) (unlinked_len _ _ _) (unlinked_free _ _ _) (unlinked_used _ _ _) hO (by omega) (fun _ => cu)).mono ?_
    rintro e w' ⟨rfl, hU', free', vf', hpm, hhp, hL', hO'⟩
    refine ⟨rfl, hU', fin _ _ w' free' vf' RU ?_ (unlinked_len _ _ _) (unlinked_like gb gx) ?_ ?_ ?_ hpm hhp hL' hO'⟩
    · intro m
      rw [del_mem hkE f.good.nodup, hnk]
    · intro m hm
      have h0 : 0 ∈ numE E := List.mem_cons_self ..
      have m1 : nm E k ∈ numE E := by rw [nm_rg hkl]; exact numE_mem hkl
      have m2 : nm E (k + 2) ∈ numE E := by
        by_cases c : k + 2 < (ring E).length
        · rw [nm_rg c]; exact numE_mem c
        · rw [nm_out (by omega)]; exact h0
      rw [unlinked_get gb gx, if_neg (by rintro rfl; exact hm m2), if_neg (by rintro rfl; exact hm m1)]
    · rw [← hll]; exact sumE_del hkE
    · intro e he; exact List.mem_of_mem_eraseIdx he
  · have hl0 : l = 0 := by
      have : b.len = 0 := by rw [hb0]
      omega
    refine (give_c hL (by omega) id (up8N l) b (ext_of hb hlv) (by omega) (by omega) hu (by omega) (by omega) (by omega) f.good.heap s rfl rfl rfl hO (fun _ => rfl) (fun hh => absurd hh (by omega))).mono ?_
    rintro e w' ⟨rfl, hU', free', vf', hpm, hhp, hL', hO'⟩
    refine ⟨rfl, hU', fin _ E w' free' vf' f.good.rng ?_ rfl ⟨rfl, fun m b h => ⟨b, h, rfl, rfl, rfl⟩⟩ (fun _ _ => rfl) ?_ (fun _ h => h) hpm hhp hL' hO'⟩
    · intro m
      exact ⟨fun h => ⟨h, by rintro rfl; exact hno h⟩, fun h => h.1⟩
    · rw [hl0]; rfl
theorem seg_seg (row : List Nat) (p l o w : Nat) (h : o + w ≤ l) : seg (seg row p l) o w = seg row (p + o) w :=
  seg_ext (fun i hi => by rw [seg_get _ _ _ _ (by omega), Nat.add_assoc])
theorem load_st (h : St W S sb A U N) (id : Nat) (x : List Nat) (hx : A[id]? = some (some x)) (o wd : Nat) (hw : wd = 1 ∨ wd = 2 ∨ wd = 4 ∨ wd = 8) (ha : o % wd = 0) (ho : o + wd ≤ x.length) : Calls Tryz.prog 200 #[.pointer (some ⟨sb, 0, none⟩), .int .i64 id, .int .i64 o, .int .i64 wd] W fun e w' => e = .returned (.tuple #[.int .u64 (leN (seg x o wd)), .int .i64 0]) ∧ Below W.heap.size W w' := by
  obtain ⟨s, E, vr, vb, vf, hL, hO, f⟩ := h
  have hheld : held s id = some x := by rw [f.all.2, hx]; rfl
  obtain ⟨b, hb, hlv, hxs⟩ := held_some hheld
  obtain ⟨p, l, hp, hl, hin⟩ := fine_in f.good hb hlv
  have hxl : x = seg s.row p l := by rw [hxs, hp, hl, Int.toNat_natCast, Int.toNat_natCast]
  have hxl2 : x.length = l := by rw [hxl]; exact seg_len _ _ _ hin
  have := load_ok hL f.fit id wd b (ext_of hb hlv) hw o p hp (by omega) (by omega) (by omega)
  rw [hxl, seg_seg _ _ _ _ _ (by omega)]
  exact this
end
end Go.Proofs.YtgmimmdojkoppaaGreatDoor.W
/- Package store: New and Save over what all Ids hold. -/
namespace Go.Proofs.YtgmimmdojkoppaaGreatDoor.W
open Go.ChangeShapes Go.WideShapes Go.RowKit Go.Shelf
set_option linter.unusedVariables false
theorem seg_saved_in (row : List Nat) (p l o v w : Nat) (h : o + w ≤ l) (hr : p + l ≤ row.length) : seg (saved row (p + o) v w) p l = saved (seg row p l) o v w := by
  apply List.ext_getElem?
  intro i
  have hl := seg_len row p l hr
  by_cases hi : i < l
  · rw [seg_get _ _ _ _ hi, saved_get _ _ _ _ _ (by omega), saved_get _ _ _ _ _ (by omega), seg_get _ _ _ _ hi]
    by_cases c : o ≤ i ∧ i < o + w
    · rw [if_pos (by omega), if_pos c, show p + i - (p + o) = i - o by omega]
    · rw [if_neg (by omega), if_neg c]
  · rw [List.getElem?_eq_none (by simp [seg]; omega), List.getElem?_eq_none (by rw [saved_len]; omega)]
theorem seg_saved_out (row : List Nat) (q v w a n : Nat) (hr : q + w ≤ row.length) (ho : a + n ≤ q ∨ q + w ≤ a) : seg (saved row q v w) a n = seg row a n :=
  seg_ext (fun i hi => by rw [saved_get _ _ _ _ _ hr, if_neg (by omega)])
theorem saved_byte (row : List Nat) (p v k : Nat) (h : ∀ x ∈ row, x < 256) : ∀ x ∈ saved row p v k, x < 256 := by
  induction k with
  | zero => exact h
  | succ k ih =>
    intro x hx
    rcases List.mem_or_eq_of_mem_set hx with g | g
    · exact ih x g
    · rw [g]; exact Nat.mod_lt _ (by omega)
section
variable {W : World} {sb : Nat} {S : Nat → Prop} {A : List (Option (List Nat))} {U N : Nat}
theorem save_st (h : St W S sb A U N) (id : Nat) (x : List Nat) (hx : A[id]? = some (some x)) (o wd v : Nat) (hv : v < 18446744073709551616) (hw : wd = 1 ∨ wd = 2 ∨ wd = 4 ∨ wd = 8) (ha : o % wd = 0) (ho : o + wd ≤ x.length) : Calls Tryz.prog 223 #[.pointer (some ⟨sb, 0, none⟩), .int .i64 id, .int .i64 o, .int .i64 wd, .int .u64 v] W fun e w' => e = .returned (.int .i64 0) ∧ Upd S W w' ∧ St w' S sb (A.set id (some (saved x o v wd))) U N := by
  obtain ⟨s, E, vr, vb, vf, hL, hO, f⟩ := h
  have hidA := (List.getElem?_eq_some_iff.1 hx).1
  have hAx : A[id] = some x := (List.getElem?_eq_some_iff.1 hx).2
  have hheld : held s id = some x := by rw [f.all.2, hx]; rfl
  obtain ⟨b, hb, hlv, hxs⟩ := held_some hheld
  obtain ⟨p, l, hp, hl, hin⟩ := fine_in f.good hb hlv
  have hxl : x = seg s.row p l := by rw [hxs, hp, hl, Int.toNat_natCast, Int.toNat_natCast]
  have hxl2 : x.length = l := by rw [hxl]; exact seg_len _ _ _ hin
  have hsA := sumA_set A id (some (saved x o v wd)) hidA
  rw [hAx] at hsA
  have e1 : lenA (some (saved x o v wd)) = lenA (some x) := by show up8N _ = up8N _; rw [saved_len]
  rw [e1] at hsA
  have hsum : sumA (A.set id (some (saved x o v wd))) = sumA A := by omega
  refine (save_ok hL f.fit id wd v hv b (ext_of hb hlv) hw o p hp (by omega) (by omega) (by omega) hO).mono ?_
  rintro e w' ⟨rfl, hL', hU'⟩
  refine ⟨rfl, hU', _, E, vr, vb, vf, hL', hO, ?_, ⟨?_, ?_⟩, by rw [hsum]; exact f.sum, f.lens, ?_, by rw [hsum]; exact f.top, by rw [List.length_set]; exact f.num, f.u9, f.n9⟩
  · have g := f.good
    exact ⟨g.nodup, by show Lies E (saved _ _ _ _).length; rw [saved_len]; exact g.lies, g.get, saved_byte _ _ _ _ g.byte, g.hand, g.zero, g.heap, g.nodupF, g.free, g.used, by show (saved _ _ _ _).length % 8 = 0; rw [saved_len]; exact g.row8⟩
  · rw [List.length_set]; exact f.all.1
  · intro i
    by_cases c : i = id
    · rw [c, List.getElem?_set_self hidA]
      unfold held
      show (match s.blks[id]? with | some b => if b.live = true then some (seg (saved s.row (p + o) v wd) b.pos.toNat b.len.toNat) else none | none => none) = some (saved x o v wd)
      rw [hb]
      simp only [hlv, if_true, hp, hl, Int.toNat_natCast]
      rw [seg_saved_in _ _ _ _ _ _ (by omega) hin, ← hxl]
    · rw [List.getElem?_set_ne (by omega), ← f.all.2 i]
      refine held_get i rfl ?_
      intro b' hb' hlv'
      rw [get_blks] at hb'
      show seg (saved s.row (p + o) v wd) _ _ = _
      rcases fine_at f.good hb' hlv' with ⟨k', hk', hki', rfl⟩ | ⟨_, rfl⟩
      · rcases fine_at f.good hb hlv with ⟨k, hk, hki, rfl⟩ | ⟨_, rfl⟩
        · have hp' : (rg E (k + 1)).p = p := Int.ofNat_inj.1 hp
          have hl' : (rg E (k + 1)).l = l := Int.ofNat_inj.1 hl
          have hne : k ≠ k' := by rintro rfl; omega
          show seg _ (rg E (k' + 1)).p (rg E (k' + 1)).l = seg _ (rg E (k' + 1)).p (rg E (k' + 1)).l
          refine seg_saved_out _ _ _ _ _ _ (by omega) ?_
          have u1 := up8N_ge (rg E (k + 1)).l
          have u2 := up8N_ge (rg E (k' + 1)).l
          rcases Nat.lt_or_gt_of_ne hne with c | c
          · have := rg_lt f.good.lies (i := k + 1) (j := k' + 1) (by omega) hk'
            unfold Ex.stop at this
            right; omega
          · have := rg_lt f.good.lies (i := k' + 1) (j := k + 1) (by omega) hk
            unfold Ex.stop at this
            left; omega
        · have : l = 0 := Int.ofNat_inj.1 hl.symm
          omega
      · rfl
  · show (saved _ _ _ _).length ≤ _
    rw [saved_len]; exact f.row
theorem new_st (W : World) (U N : Nat) (hU : U ≤ 100000000000) (hN : N ≤ 100000000) : Calls Tryz.prog 12 #[] W fun e w' => e = .returned (.pointer (some ⟨W.heap.size, 0, none⟩)) ∧ St w' (fun k => k = W.heap.size) W.heap.size [] U N ∧ Below W.heap.size W w' ∧ w'.heap.size = W.heap.size + 1 := by
  refine (new_c W).mono ?_
  rintro e w' ⟨rfl, hL, hB, hz⟩
  refine ⟨rfl, ⟨emptySto, [], _, _, _, hL, ?_, ?_⟩, hB, hz⟩
  · exact ⟨rfl, by simp [Value.ownBlock], by simp [Value.ownBlock], by simp [Value.ownBlock]⟩
  · refine ⟨⟨?_, ?_, ?_, ?_, ?_, ?_, ?_, ?_, ?_, rfl, rfl⟩, ⟨rfl, fun i => by simp [held, emptySto]⟩, rfl, ?_, ?_, Nat.zero_le _, Nat.zero_le _, hU, hN⟩
    · simp [ring]
    · refine ⟨?_, ?_, ?_⟩
      · intro i e f' he hf
        simp [ring] at hf
      · intro e he; cases he
      · intro e he
        simp [ring] at he
        rw [he]; exact Nat.le_refl _
    · intro i e he
      cases i with
      | zero => simp [ring] at he; subst he; rfl
      | succ i => simp [ring] at he
    · intro x hx; cases hx
    · exact ⟨front, List.mem_cons_self .., rfl⟩
    · intro id b hb; simp [emptySto] at hb
    · intro k h0 hk; exact absurd hk (by simp [emptySto])
    · exact List.nodup_nil
    · intro x; simp [emptySto]
    · intro e he; cases he
    · show 0 ≤ _; omega
end
end Go.Proofs.YtgmimmdojkoppaaGreatDoor.W
/- Package store: Len, Load, Save and their errors, Span behind Pack, over what all Ids hold. -/
namespace Go.Proofs.YtgmimmdojkoppaaGreatDoor.W
open Go.ChangeShapes Go.WideShapes Go.RowKit Go.Shelf
set_option linter.unusedVariables false
section
variable {W : World} {sb : Nat} {S : Nat → Prop} {A : List (Option (List Nat))} {U N : Nat}
theorem len_st (h : St W S sb A U N) (id : Nat) (x : List Nat) (hx : A[id]? = some (some x)) : Calls Tryz.prog 184 #[.pointer (some ⟨sb, 0, none⟩), .int .i64 id] W fun e w' => e = .returned (.tuple #[.int .i64 x.length, .int .i64 0]) ∧ w' = W := by
  obtain ⟨s, E, vr, vb, vf, hL, hO, f⟩ := h
  have hheld : held s id = some x := by rw [f.all.2, hx]; rfl
  obtain ⟨b, hb, hlv, hxs⟩ := held_some hheld
  obtain ⟨p, l, hp, hl, hin⟩ := fine_in f.good hb hlv
  have hxl : x.length = l := by rw [hxs, hp, hl, Int.toNat_natCast, Int.toNat_natCast]; exact seg_len _ _ _ hin
  have := len_some hL f.fit.len id b (ext_of hb hlv)
  rw [hl] at this
  rw [hxl]
  exact this
/-- packed: the row has no byte too many -/
def StT (W : World) (S : Nat → Prop) (sb : Nat) (A : List (Option (List Nat))) (U N : Nat) : Prop := ∃ s E vr vb vf, Lay W sb vr vb vf s ∧ Own S sb vr vb vf ∧ Fine s E A U N ∧ s.row.length = sumA A
theorem StT.st (h : StT W S sb A U N) : St W S sb A U N := by
  obtain ⟨s, E, vr, vb, vf, hL, hO, f, _⟩ := h
  exact ⟨s, E, vr, vb, vf, hL, hO, f⟩
end
end Go.Proofs.YtgmimmdojkoppaaGreatDoor.W
