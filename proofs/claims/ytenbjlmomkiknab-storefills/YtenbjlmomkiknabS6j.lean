/- Package store: Good behind Take. -/
import Derived.Test.YtenbjlmomkiknabS6i
namespace Go.Proofs.Ytenbjlmomkiknab.W
set_option linter.unusedVariables false
theorem set_turn (s : Sto) (n : Nat) (c : Blk) (h : Int) (b : Bool) : (s.turn h b).set n c = (s.set n c).turn h b := by
  unfold Sto.set; split <;> rfl
section
variable {s : Sto} {c : List Nat} {bl : Nat → Blk} {p l en : Nat → Nat}
theorem packN_turn (h : Int) (b : Bool) (i : Nat) : packN (s.turn h b) c bl p l en (i + 1) = (packN s c bl p l en (i + 1)).turn (c.getD i 0 : Nat) b := by
  induction i with
  | zero =>
    show ({ (s.turn h b).set (c.getD 0 0) { bl 0 with pos := en 0 } with row := _, hand := _ } : Sto) = _
    rw [set_turn]; rfl
  | succ i ih =>
    show ({ (packN (s.turn h b) c bl p l en (i + 1)).set (c.getD (i + 1) 0) { bl (i + 1) with pos := en (i + 1) } with row := setL (packN (s.turn h b) c bl p l en (i + 1)).row _ (seg (packN (s.turn h b) c bl p l en (i + 1)).row _ _), hand := _ } : Sto) = _
    rw [ih, set_turn]; rfl
theorem packed_turn (h : Int) (b : Bool) (hc : 0 < c.length) : packedSto (s.turn h b) c bl p l en = packedSto s c bl p l en := by
  obtain ⟨m, hm⟩ : ∃ m, c.length = m + 1 := ⟨c.length - 1, by omega⟩
  unfold packedSto
  rw [hm, packN_turn]
  rfl
end
/-- what an Id holds -/
def held (s : Sto) (id : Nat) : Option (List Nat) := match s.blks[id]? with | some b => if b.live = true then some (seg s.row b.pos.toNat b.len.toNat) else none | none => none
section
variable {s : Sto} {E : List Ex}
theorem held_get {t : Sto} (id : Nat) (h : t.get (id + 1) = s.get (id + 1)) (hr : ∀ b, s.get (id + 1) = some b → b.live = true → seg t.row b.pos.toNat b.len.toNat = seg s.row b.pos.toNat b.len.toNat) : held t id = held s id := by
  rw [get_blks, get_blks] at h
  unfold held
  rw [h]
  rw [get_blks] at hr
  cases e : s.blks[id]? with
  | none => rfl
  | some b =>
    simp only []
    by_cases c : b.live = true
    · rw [if_pos c, if_pos c, hr b e c]
    · rw [if_neg c, if_neg c]
theorem held_rg (g : Ring s E) {k : Nat} (hk : k + 1 < (ring E).length) {id : Nat} (hid : id + 1 = (rg E (k + 1)).n) : held s id = some (seg s.row (rg E (k + 1)).p (rg E (k + 1)).l) := by
  have h1 := g.get (k + 1) _ (rg_get hk)
  rw [← hid, get_blks] at h1
  unfold held
  rw [h1]
  simp [blkOf]
theorem mem_rg {n : Nat} (h : n ∈ numE E) (h0 : n ≠ 0) : ∃ k, k + 1 < (ring E).length ∧ n = (rg E (k + 1)).n := by
  obtain ⟨j, hj, e⟩ := List.mem_iff_getElem.1 h
  have h1 : (numE E)[j]? = some n := by rw [List.getElem?_eq_getElem hj, e]
  obtain ⟨h2, h3⟩ := numE_get h1
  cases j with
  | zero => exact absurd h3 h0
  | succ k => exact ⟨k, h2, h3⟩
/-- Good but for an Id that has been taken out of the heap -/
structure Half (s : Sto) (E : List Ex) (id : Nat) : Prop where
  rng : Ring s E
  out : id + 1 ∉ numE E
  blk : s.blks[id]? = some noBlk
  zero : ∀ i b, s.blks[i]? = some b → i + 1 ∉ numE E → b = noBlk ∨ b = ⟨true, 0, 0, 0, 0⟩
  heap : IsHeap s.free s.free.length
  nodupF : s.free.Nodup
  free : ∀ x : Int, x ∈ s.free ↔ ∃ i : Nat, x = i ∧ i ≠ id ∧ s.blks[i]? = some noBlk
  used : s.used = ((E.map (fun e => up8N e.l)).foldr (· + ·) 0 : Nat)
theorem took_get (id : Nat) (n : Int) (m : Nat) (h : m ≠ id + 1) : (s.took id n).get m = s.get m := by
  unfold Sto.get
  by_cases c : m = 0
  · rw [if_pos c, if_pos c]; rfl
  · rw [if_neg c, if_neg c]
    show (s.blks.set id _)[m - 1]? = _
    rw [List.getElem?_set_ne (by omega)]
theorem took_get_id (id : Nat) (n : Int) (h : id < s.blks.length) : (s.took id n).get (id + 1) = some ⟨true, 0, n, 0, 0⟩ := by
  rw [get_blks]
  show (s.blks.set id _)[id]? = _
  rw [List.getElem?_set_self h]
theorem half_took {id : Nat} (h : Half s E id) (n : Int) : Ring (s.took id n) E :=
  h.rng.congr (fun m hm => took_get _ _ _ (by rintro rfl; exact h.out hm)) rfl rfl
/-- the sum of all that is taken -/
def sumE (E : List Ex) : Nat := (E.map (fun e => up8N e.l)).foldr (· + ·) 0
theorem sumE_ins {j : Nat} (e : Ex) : sumE (insE E j e) = sumE E + up8N e.l := by
  unfold sumE insE
  rw [List.map_append, List.map_cons, List.foldr_append, List.foldr_cons]
  have hE : E.map (fun e => up8N e.l) = (E.take j).map (fun e => up8N e.l) ++ (E.drop j).map (fun e => up8N e.l) := by rw [← List.map_append, List.take_append_drop]
  rw [hE, List.foldr_append]
  generalize (E.take j).map (fun e => up8N e.l) = L
  generalize (List.foldr (· + ·) 0 ((E.drop j).map (fun e => up8N e.l))) = z
  induction L with
  | nil => simp; omega
  | cons a L ih => simp only [List.foldr_cons]; omega
theorem enE_shift (E : List Ex) (e : Ex) (i : Nat) : enE (e :: E) (i + 2) = up8N e.l + enE E (i + 1) := by
  induction i with
  | zero =>
    show 0 + up8N (rg (e :: E) 0).l + up8N (rg (e :: E) 1).l = up8N e.l + (0 + up8N (rg E 0).l)
    have h1 : rg (e :: E) 0 = front := rfl
    have h2 : rg (e :: E) 1 = e := rfl
    have h3 : rg E 0 = front := rfl
    rw [h1, h2, h3]
    have : up8N front.l = 0 := rfl
    omega
  | succ i ih =>
    show enE (e :: E) (i + 2) + up8N (rg (e :: E) (i + 2)).l = up8N e.l + (enE E (i + 1) + up8N (rg E (i + 1)).l)
    have h1 : rg (e :: E) (i + 2) = rg E (i + 1) := rfl
    rw [ih, h1]; omega
theorem enE_sum (E : List Ex) : enE E (ring E).length = sumE E := by
  induction E with
  | nil => rfl
  | cons e E ih =>
    have : (ring (e :: E)).length = E.length + 2 := rfl
    rw [this, enE_shift]
    have h2 : (ring E).length = E.length + 1 := rfl
    rw [h2] at ih
    rw [ih]; rfl
theorem blks_set_get (id : Nat) (b : Blk) (i : Nat) (h : i ≠ id) : (s.blks.set id b)[i]? = s.blks[i]? := List.getElem?_set_ne (by omega)
/-- behind lay: what has been taken is in the ring -/
theorem half_good {t : Sto} {E' : List Ex} {id j l q : Nat} (h : Half s E id) (hid : id < s.blks.length) (hE' : numE E' = numE E) (hsum : sumE E' = sumE E) (g : Ring t E') (hj : j ≤ E'.length) (hl : 0 < l) (hfr : t.free = s.free) (hus : t.used = s.used + (up8N l : Nat)) (hlen : t.blks.length = s.blks.length) (hq : q = (rg E' j).stop)
    (hget : ∀ m, m ∉ numE E → t.get m = (s.took id l).get m) (hby : ∀ k, k + 1 < (ring E).length → (rg E' (k + 1)).l = (rg E (k + 1)).l ∧ seg t.row (rg E' (k + 1)).p (rg E' (k + 1)).l = seg s.row (rg E (k + 1)).p (rg E (k + 1)).l) (hroom : j < E'.length → (rg E' j).stop + up8N l ≤ (rg E' (j + 1)).p) :
    Good (t.laid (id + 1) (nm E' j) (nm E' (j + 1)) q (up8N l)) (insE E' j ⟨id + 1, q, l⟩) ∧ ∀ i, held (t.laid (id + 1) (nm E' j) (nm E' (j + 1)) q (up8N l)) i = if i = id then some (List.replicate l 0) else held s i := by
  subst hq
  have hout : id + 1 ∉ numE E' := by rw [hE']; exact h.out
  have hgid : t.get (id + 1) = some ⟨true, 0, l, 0, 0⟩ := by rw [hget _ h.out]; exact took_get_id _ _ hid
  have R := ring_laid g hj hout hl hgid hroom
  have hEl : E'.length = E.length := by
    have := congrArg List.length hE'
    rw [numE_len, numE_len] at this; omega
  have hjl : j < (ring E').length := by rw [ring_len]; omega
  have hbk : nm E' j ∈ numE E' := by rw [nm_rg hjl]; exact numE_mem hjl
  have h0 : 0 ∈ numE E' := List.mem_cons_self ..
  have hnx : nm E' (j + 1) ∈ numE E' := by
    by_cases c : j + 1 < (ring E').length
    · rw [nm_rg c]; exact numE_mem c
    · rw [nm_out (by omega)]; exact h0
  have hself : ∀ m ∈ numE E', ∃ b, t.get m = some b := by
    intro m hm
    obtain ⟨i, hi, e⟩ := List.mem_iff_getElem.1 hm
    obtain ⟨h2, h3⟩ := numE_get (E := E') (i := i) (n := m) (by rw [List.getElem?_eq_getElem hi, e])
    exact ⟨_, by rw [h3]; exact g.get i _ (rg_get h2)⟩
  obtain ⟨bb, hbb⟩ := hself _ hbk
  obtain ⟨bx, hbx⟩ := hself _ hnx
  have key := laid_get (rg E' j).stop (up8N l) hgid hbb hbx (by intro e; exact hout (e ▸ hbk)) (by intro e; exact hout (e ▸ hnx))
  have kout : ∀ m, m ≠ id + 1 → m ∉ numE E → (t.laid (id + 1) (nm E' j) (nm E' (j + 1)) (rg E' j).stop (up8N l)).get m = s.get m := by
    intro m hm hn
    have hn' : m ∉ numE E' := by rw [hE']; exact hn
    rw [key, if_neg hm, if_neg (by rintro rfl; exact hn' hnx), if_neg (by rintro rfl; exact hn' hbk), hget m hn]
    exact took_get _ _ _ hm
  have kid : (t.laid (id + 1) (nm E' j) (nm E' (j + 1)) (rg E' j).stop (up8N l)).get (id + 1) = some ⟨true, (rg E' j).stop, l, (nm E' j : Nat), (nm E' (j + 1) : Nat)⟩ := by rw [key, if_pos rfl]
  have hmem : ∀ m, m ∈ (ring (insE E' j ⟨id + 1, (rg E' j).stop, l⟩)).map Ex.n ↔ m = id + 1 ∨ m ∈ numE E := by
    intro m
    rw [(insE_num _).mem_iff, List.mem_cons, ← hE']; rfl
  refine ⟨R.good ⟨?_, ?_, ?_, ?_, ?_⟩, ?_⟩
  · intro i b hb hn
    rw [hmem] at hn
    rw [← get_blks, kout (i + 1) (fun e => hn (.inl e)) (fun e => hn (.inr e)), get_blks] at hb
    exact h.zero i b hb (fun e => hn (.inr e))
  · rw [laid_free, hfr]; exact h.heap
  · rw [laid_free, hfr]; exact h.nodupF
  · intro x
    rw [laid_free, hfr, h.free x]
    have kk : ∀ i : Nat, (i ≠ id ∧ s.blks[i]? = some noBlk) ↔ (t.laid (id + 1) (nm E' j) (nm E' (j + 1)) (rg E' j).stop (up8N l)).blks[i]? = some noBlk := by
      intro i
      by_cases c1 : i = id
      · subst c1
        constructor
        · rintro ⟨e, _⟩; exact absurd rfl e
        · intro e
          rw [← get_blks, kid] at e
          cases e
      · by_cases c2 : i + 1 ∈ numE E
        · obtain ⟨b1, e1, l1⟩ := ring_live h.rng i c2
          obtain ⟨b2, e2, l2⟩ := ring_live R i ((hmem _).2 (.inr c2))
          rw [e1, e2]
          constructor
          · rintro ⟨_, e⟩; cases e; cases l1
          · rintro e; cases e; cases l2
        · rw [← get_blks, ← get_blks, kout (i + 1) (by omega) c2]
          exact ⟨fun e => e.2, fun e => ⟨c1, e⟩⟩
    constructor
    · rintro ⟨i, e, h1⟩; exact ⟨i, e, (kk i).1 h1⟩
    · rintro ⟨i, e, h1⟩; exact ⟨i, e, (kk i).2 h1⟩
  · rw [laid_used, hus, h.used]
    have : sumE (insE E' j ⟨id + 1, (rg E' j).stop, l⟩) = sumE E + up8N l := by rw [sumE_ins, hsum]
    unfold sumE at this
    rw [this]; push_cast; rfl
  · intro i
    by_cases c1 : i = id
    · rw [if_pos c1, c1]
      unfold held
      rw [← get_blks, kid]
      simp only [if_true, Int.toNat_natCast, laid_row]
      rw [layRow_in _ _ _ _ (up8N_ge l)]
    · rw [if_neg c1]
      by_cases c2 : i + 1 ∈ numE E
      · obtain ⟨k, hk, hki⟩ := mem_rg c2 (by omega)
        rw [held_rg h.rng hk hki]
        obtain ⟨hb1, hb2⟩ := hby k hk
        have hk' : k + 1 < (ring E').length := by rw [ring_len, hEl]; rw [ring_len] at hk; omega
        have hn' : (rg E' (k + 1)).n = (rg E (k + 1)).n := by
          have := congrArg (fun L => L[k + 1]?) hE'
          unfold numE at this
          simp only [List.getElem?_map, rg_get hk, rg_get hk', Option.map_some] at this
          exact Option.some.inj this
        rw [← hb2, ← laid_bytes g hj (n := id + 1) hroom (k + 1) hk' (nm E' j) (nm E' (j + 1))]
        have hlt : (ring (insE E' j ⟨id + 1, (rg E' j).stop, l⟩)).length = E'.length + 2 := by rw [ring_len, insE_len _ hj]
        by_cases c3 : k + 1 ≤ j
        · have e1 : rg (insE E' j ⟨id + 1, (rg E' j).stop, l⟩) (k + 1) = rg E' (k + 1) := rg_of (by rw [insE_get _ hj, if_pos c3]; exact rg_get hk')
          have := held_rg R (k := k) (by omega) (id := i) (by rw [e1, hn']; exact hki)
          rw [this, e1]
        · have hkl := hk'
          rw [ring_len] at hkl
          have e1 : rg (insE E' j ⟨id + 1, (rg E' j).stop, l⟩) (k + 1 + 1) = rg E' (k + 1) := rg_of (by rw [insE_get _ hj, if_neg (by omega), if_neg (by omega), Nat.add_sub_cancel]; exact rg_get hk')
          have := held_rg R (k := k + 1) (by omega) (id := i) (by rw [e1, hn']; exact hki)
          rw [this, e1]
      · refine held_get i (kout _ (by omega) c2) ?_
        intro b hb hlv
        rw [get_blks] at hb
        rcases h.zero i b hb c2 with rfl | rfl
        · cases hlv
        · rfl
end
end Go.Proofs.Ytenbjlmomkiknab.W
