/- Package store: Good behind Take, whatever seek finds. -/
import Derived.Test.YtenbjlmomkiknabS6j
namespace Go.Proofs.Ytenbjlmomkiknab.W
set_option linter.unusedVariables false
section
variable {s : Sto} {E : List Ex}
theorem nm_numE (i : Nat) : (numE E)[i]?.getD 0 = nm E i := by unfold nm numE; rw [List.getElem?_map]
theorem packE_lens (e : Ex) (he : e ∈ packE E) : ∃ f ∈ E, f.l = e.l := by
  obtain ⟨i, hi, rfl⟩ := List.mem_iff_getElem.1 he
  have h1 := packE_get (E := E) (i := i + 1) (by rw [packE_len] at hi; rw [ring_len]; omega)
  unfold ring at h1
  rw [List.getElem?_cons_succ, List.getElem?_eq_getElem hi] at h1
  rw [Option.some.inj h1]
  exact ⟨_, rg_memE (E := E) (i := i) (by rw [packE_len] at hi; rw [ring_len]; omega), rfl⟩
theorem packE_sum : sumE (packE E) = sumE E := packed_used
theorem insE_mem {j : Nat} {e f : Ex} (h : f ∈ insE E j e) : f = e ∨ f ∈ E := by
  unfold insE at h
  rcases List.mem_append.1 h with h | h
  · exact .inr (List.mem_of_mem_take h)
  · rcases List.mem_cons.1 h with h | h
    · exact .inl h
    · exact .inr (List.mem_of_mem_drop h)
theorem stop_int (e : Ex) : (e.p : Int) + up8 (e.l : Int) = (e.stop : Nat) := by rw [up8N_eq]; unfold Ex.stop; push_cast; rfl
abbrev skG (t : Sto) (E : List Ex) (size : Int) (s4 : Sto) (bk nx q : Nat) : Prop := SeekG t (numE E) (fun i => blkOf E i (rg E i)) (fun i => (rg E i).p) (fun i => (rg E i).l) (fun i => up8N (rg E i).l) (enE E) size s4 bk nx q
theorem seekG_good {id l bk nx q : Nat} {s4 : Sto} (h : Half s E id) (hid : id < s.blks.length) (hl : 0 < l) (hG : skG (s.took id l) E (up8N l : Nat) s4 bk nx q) :
    ∃ E', Good (s4.laid (id + 1) bk nx q (up8N l)) E' ∧ (∀ i, held (s4.laid (id + 1) bk nx q (up8N l)) i = if i = id then some (List.replicate l 0) else held s i) ∧ (∀ e ∈ E', e.l = l ∨ ∃ f ∈ E, f.l = e.l) ∧ sumE E' = sumE E + up8N l ∧ (s4.laid (id + 1) bk nx q (up8N l)).blks.length = s.blks.length ∧ (s4.laid (id + 1) bk nx q (up8N l)).row.length ≤ max s.row.length (2 * (sumE E + up8N l) + 64) := by
  have R := half_took h (l : Int)
  have hus : (s.took id l).used = s.used + (up8N l : Nat) := by
    show s.used + up8 (l : Int) = _
    rw [up8N_eq]
  have hbl : (s.took id l).blks.length = s.blks.length := by
    show (s.blks.set id _).length = _
    simp
  rcases hG with ⟨j, b, hbk, rfl, hnx, hq, hroom⟩ | ⟨hd, b, rfl, hbk, rfl, hq⟩
  · obtain ⟨hjl, hbk'⟩ := numE_get hbk
    have hj : j ≤ E.length := by rw [ring_len] at hjl; omega
    have e1 : bk = nm E j := by rw [nm_rg hjl]; exact hbk'
    have e2 : nx = nm E (j + 1) := by rw [hnx, nm_numE]
    have e3 : q = (rg E j).stop := hq
    have gj := R.get j _ (rg_get hjl)
    unfold roomAt roomOf at hroom
    rw [getD_get hbk, hbk', getD_of gj, nm_numE] at hroom
    have hst : (blkOf E j (rg E j)).stop = ((rg E j).stop : Nat) := stop_int _
    rw [hst] at hroom
    have hr1 : j < E.length → (rg E j).stop + up8N l ≤ (rg E (j + 1)).p := by
      intro hjE
      have h1 : j + 1 < (ring E).length := by rw [ring_len]; omega
      rw [nm_rg h1, if_neg (h.rng.lies.2.1 _ (rg_memE h1)).2.2, getD_of (R.get (j + 1) _ (rg_get h1))] at hroom
      have : (blkOf E (j + 1) (rg E (j + 1))).pos = ((rg E (j + 1)).p : Nat) := rfl
      omega
    have hr2 : j = E.length → (rg E j).stop + up8N l ≤ 2 * (sumE E + up8N l) + 64 := by
      intro hjE
      rw [nm_out (by rw [ring_len]; omega), if_pos rfl, hus, h.used] at hroom
      change _ ≤ 2 * (((sumE E : Nat) : Int) + _) + 64 - _ at hroom
      omega
    subst e1 e2
    have T : Ring ((s.took id l).turn (nm E j : Nat) b) E := ⟨R.nodup, R.lies, R.get, R.byte, ⟨rg E j, rg_mem hjl, by rw [← nm_rg hjl]; rfl⟩, R.row8⟩
    have hh := half_good h hid rfl rfl T hj hl rfl hus hbl e3 (fun m _ => rfl) (fun k hk => ⟨rfl, rfl⟩) hr1
    refine ⟨_, hh.1, hh.2, ?_, sumE_ins _, ?_, ?_⟩
    · intro e he
      rcases insE_mem he with rfl | he
      · exact .inl rfl
      · exact .inr ⟨e, he, rfl⟩
    · rw [laid_len]; exact hbl
    · rw [laid_row, layRow_len]
      show max s.row.length (q + up8N l) ≤ _
      by_cases c : j < E.length
      · have h1 := hr1 c
        have h2 := h.rng.lies.2.2 _ (rg_mem (E := E) (i := j + 1) (by rw [ring_len]; omega))
        unfold Ex.stop at h2
        rw [e3]; omega
      · have := hr2 (by omega)
        rw [e3]; omega
  · have hc : 0 < (numE E).length := by rw [numE_len]; omega
    rw [packed_turn hd b hc]
    have T := ring_packed R
    have hl2 : (packE E).length = E.length := packE_len
    have hjl : (packE E).length < (ring E).length := by rw [hl2, ring_len]; omega
    have hn1 : (numE E).length - 1 = (packE E).length := by rw [numE_len, hl2]; omega
    rw [hn1] at hbk
    have e1 : bk = nm (packE E) (packE E).length := by
      rw [← nm_numE, packE_num, hbk]; rfl
    have e2 : 0 = nm (packE E) ((packE E).length + 1) := (nm_out (by rw [ring_len]; omega)).symm
    have hrg : rg (packE E) (packE E).length = ⟨(rg E (packE E).length).n, enE E (packE E).length, (rg E (packE E).length).l⟩ := packE_rg hjl
    have e3 : q = (rg (packE E) (packE E).length).stop := by
      rw [hq, hrg]
      show enE E (numE E).length = enE E (packE E).length + up8N _
      rw [show (numE E).length = (packE E).length + 1 by omega]; rfl
    have hpr := packN_rest (s := s.took id l) (c := numE E) (bl := fun i => blkOf E i (rg E i)) (p := fun i => (rg E i).p) (l := fun i => (rg E i).l) (en := enE E) (numE E).length
    have hh := half_good h hid packE_num packE_sum T (Nat.le_refl _) hl hpr.1 (hpr.2.1.trans hus) ((packN_blks _).trans hbl) e3 (fun m hm => packN_other _ _ (Nat.le_refl _) hm) (fun k hk => by
      rw [packE_rg hk]
      refine ⟨rfl, ?_⟩
      show seg ((pkE (s.took id l) E (numE E).length).row.take (enE E (numE E).length)) (enE E (k + 1)) (rg E (k + 1)).l = _
      have hb := (ring_bytes R (numE E).length (by rw [numlen]; omega)).2 (k + 1) (by rw [numlen]; omega)
      have hle := enE_le_all (E := E) hk
      have hu := up8N_ge (rg E (k + 1)).l
      rw [seg_take _ _ _ _ (by rw [numlen]; omega), hb]; rfl) (fun hh => absurd hh (by omega))
    rw [← e1, ← e2] at hh
    refine ⟨_, hh.1, hh.2, ?_, (sumE_ins _).trans (by rw [packE_sum]), ?_, ?_⟩
    · intro e he
      rcases insE_mem he with rfl | he
      · exact .inl rfl
      · exact .inr (packE_lens e he)
    · rw [laid_len]; exact (packN_blks _).trans hbl
    · rw [laid_row, layRow_len, pkd_row R]
      have : q = sumE E := by rw [hq, numlen, enE_sum]
      rw [this, enE_sum]
      omega
end
end Go.Proofs.Ytenbjlmomkiknab.W
