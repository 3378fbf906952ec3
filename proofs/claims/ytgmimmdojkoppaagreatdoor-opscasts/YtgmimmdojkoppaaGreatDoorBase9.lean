import Derived.Test.YtgmimmdojkoppaaGreatDoorBase8
import Derived.Test.YtgmimmdojkoppaaGreatDoorBase7
/- Package store: Good behind Take. -/
namespace Go.Proofs.YtgmimmdojkoppaaGreatDoor.W
set_option linter.unusedVariables false
theorem set_turn (s : Sto) (n : Nat) (c : Blk) (h : Int) (b : Bool) : (s.turn h b).set n c = (s.set n c).turn h b := by
  unfold Sto.set; split <;> rfl
section
variable {s : Sto} {c : List Nat} {bl : Nat → Blk} {p l en : Nat → Nat}
theorem packN_turn (h : Int) (b : Bool) (i : Nat) : packN (s.turn h b) c bl p l en (i + 1) = (packN s c bl p l en (i + 1)).turn (c.getD i 0 : Nat) b := by
  induction i with
  | zero =>
    show ({ (s.turn h b).set (c.getD 0 0) { bl 0 with pos := en 0 } with row := _, hand := _ } : Sto) = _
    rw [set_turn]; rfl
  | succ i ih =>
    show ({ (packN (s.turn h b) c bl p l en (i + 1)).set (c.getD (i + 1) 0) { bl (i + 1) with pos := en (i + 1) } with row := setL (packN (s.turn h b) c bl p l en (i + 1)).row _ (seg (packN (s.turn h b) c bl p l en (i + 1)).row _ _), hand := _ } : Sto) = _
    rw [ih, set_turn]; rfl
theorem packed_turn (h : Int) (b : Bool) (hc : 0 < c.length) : packedSto (s.turn h b) c bl p l en = packedSto s c bl p l en := by
  obtain ⟨m, hm⟩ : ∃ m, c.length = m + 1 := ⟨c.length - 1, by omega⟩
  unfold packedSto
  rw [hm, packN_turn]
  rfl
end
/-- what an Id holds -/
def held (s : Sto) (id : Nat) : Option (List Nat) := match s.blks[id]? with | some b => if b.live = true then some (seg s.row b.pos.toNat b.len.toNat) else none | none => none
section
variable {s : Sto} {E : List Ex}
theorem held_get {t : Sto} (id : Nat) (h : t.get (id + 1) = s.get (id + 1)) (hr : ∀ b, s.get (id + 1) = some b → b.live = true → seg t.row b.pos.toNat b.len.toNat = seg s.row b.pos.toNat b.len.toNat) : held t id = held s id := by
  rw [get_blks, get_blks] at h
  unfold held
  rw [h]
  rw [get_blks] at hr
  cases e : s.blks[id]? with
  | none => rfl
  | some b =>
    simp only []
    by_cases c : b.live = true
    · rw [if_pos c, if_pos c, hr b e c]
    · rw [if_neg c, if_neg c]
theorem held_rg (g : Ring s E) {k : Nat} (hk : k + 1 < (ring E).length) {id : Nat} (hid : id + 1 = (rg E (k + 1)).n) : held s id = some (seg s.row (rg E (k + 1)).p (rg E (k + 1)).l) := by
  have h1 := g.get (k + 1) _ (rg_get hk)
  rw [← hid, get_blks] at h1
  unfold held
  rw [h1]
  simp [blkOf]
theorem mem_rg {n : Nat} (h : n ∈ numE E) (h0 : n ≠ 0) : ∃ k, k + 1 < (ring E).length ∧ n = (rg E (k + 1)).n := by
  obtain ⟨j, hj, e⟩ := List.mem_iff_getElem.1 h
  have h1 : (numE E)[j]? = some n := by rw [List.getElem?_eq_getElem hj, e]
  obtain ⟨h2, h3⟩ := numE_get h1
  cases j with
  | zero => exact absurd h3 h0
  | succ k => exact ⟨k, h2, h3⟩
/-- Good but for an Id that has been taken out of the heap -/
structure Half (s : Sto) (E : List Ex) (id : Nat) : Prop where
  rng : Ring s E
  out : id + 1 ∉ numE E
  blk : s.blks[id]? = some noBlk
  zero : ∀ i b, s.blks[i]? = some b → i + 1 ∉ numE E → b = noBlk ∨ b = ⟨true, 0, 0, 0, 0⟩
  heap : IsHeap s.free s.free.length
  nodupF : s.free.Nodup
  free : ∀ x : Int, x ∈ s.free ↔ ∃ i : Nat, x = i ∧ i ≠ id ∧ s.blks[i]? = some noBlk
  used : s.used = ((E.map (fun e => up8N e.l)).foldr (· + ·) 0 : Nat)
theorem took_get (id : Nat) (n : Int) (m : Nat) (h : m ≠ id + 1) : (s.took id n).get m = s.get m := by
  unfold Sto.get
  by_cases c : m = 0
  · rw [if_pos c, if_pos c]; rfl
  · rw [if_neg c, if_neg c]
    show (s.blks.set id _)[m - 1]? = _
    rw [List.getElem?_set_ne (by omega)]
theorem took_get_id (id : Nat) (n : Int) (h : id < s.blks.length) : (s.took id n).get (id + 1) = some ⟨true, 0, n, 0, 0⟩ := by
  rw [get_blks]
  show (s.blks.set id _)[id]? = _
  rw [List.getElem?_set_self h]
theorem half_took {id : Nat} (h : Half s E id) (n : Int) : Ring (s.took id n) E :=
  h.rng.congr (fun m hm => took_get _ _ _ (by rintro rfl; exact h.out hm)) rfl rfl
/-- the sum of all that is taken -/
def sumE (E : List Ex) : Nat := (E.map (fun e => up8N e.l)).foldr (· + ·) 0
theorem sumE_ins {j : Nat} (e : Ex) : sumE (insE E j e) = sumE E + up8N e.l := by
  unfold sumE insE
  rw [List.map_append, List.map_cons, List.foldr_append, List.foldr_cons]
  have hE : E.map (fun e => up8N e.l) = (E.take j).map (fun e => up8N e.l) ++ (E.drop j).map (fun e => up8N e.l) := by rw [← List.map_append, List.take_append_drop]
  rw [hE, List.foldr_append]
  generalize (E.take j).map (fun e => up8N e.l) = L
  generalize (List.foldr (· + ·) 0 ((E.drop j).map (fun e => up8N e.l))) = z
  induction L with
  | nil => simp; omega
  | cons a L ih => simp only [List.foldr_cons]; omega
theorem enE_shift (E : List Ex) (e : Ex) (i : Nat) : enE (e :: E) (i + 2) = up8N e.l + enE E (i + 1) := by
  induction i with
  | zero =>
    show 0 + up8N (rg (e :: E) 0).l + up8N (rg (e :: E) 1).l = up8N e.l + (0 + up8N (rg E 0).l)
    have h1 : rg (e :: E) 0 = front := rfl
    have h2 : rg (e :: E) 1 = e := rfl
    have h3 : rg E 0 = front := rfl
    rw [h1, h2, h3]
    have : up8N front.l = 0 := rfl
    omega
  | succ i ih =>
    show enE (e :: E) (i + 2) + up8N (rg (e :: E) (i + 2)).l = up8N e.l + (enE E (i + 1) + up8N (rg E (i + 1)).l)
    have h1 : rg (e :: E) (i + 2) = rg E (i + 1) := rfl
    rw [ih, h1]; omega
theorem enE_sum (E : List Ex) : enE E (ring E).length = sumE E := by
  induction E with
  | nil => rfl
  | cons e E ih =>
    have : (ring (e :: E)).length = E.length + 2 := rfl
    rw [this, enE_shift]
    have h2 : (ring E).length = E.length + 1 := rfl
    rw [h2] at ih
    rw [ih]; rfl
theorem blks_set_get (id : Nat) (b : Blk) (i : Nat) (h : i ≠ id) : (s.blks.set id b)[i]? = s.blks[i]? := List.getElem?_set_ne (by omega)
/-- behind lay: what has been taken is in the ring -/
theorem half_good {t : Sto} {E' : List Ex} {id j l q : Nat} (h : Half s E id) (hid : id < s.blks.length) (hE' : numE E' = numE E) (hsum : sumE E' = sumE E) (g : Ring t E') (hj : j ≤ E'.length) (hl : 0 < l) (hfr : t.free = s.free) (hus : t.used = s.used + (up8N l : Nat)) (hlen : t.blks.length = s.blks.length) (hq : q = (rg E' j).stop)
    (hget : ∀ m, m ∉ numE E → t.get m = (s.took id l).get m) (hby : ∀ k, k + 1 < (ring E).length → (rg E' (k + 1)).l = (rg E (k + 1)).l ∧ seg t.row (rg E' (k + 1)).p (rg E' (k + 1)).l = seg s.row (rg E (k + 1)).p (rg E (k + 1)).l) (hroom : j < E'.length → (rg E' j).stop + up8N l ≤ (rg E' (j + 1)).p) :
    Good (t.laid (id + 1) (nm E' j) (nm E' (j + 1)) q (up8N l)) (insE E' j ⟨id + 1, q, l⟩) ∧ ∀ i, held (t.laid (id + 1) (nm E' j) (nm E' (j + 1)) q (up8N l)) i = if i = id then some (List.replicate l 0) else held s i := by
  subst hq
  have hout : id + 1 ∉ numE E' := by rw [hE']; exact h.out
  have hgid : t.get (id + 1) = some ⟨true, 0, l, 0, 0⟩ := by rw [hget _ h.out]; exact took_get_id _ _ hid
  have R := ring_laid g hj hout hl hgid hroom
  have hEl : E'.length = E.length := by
    have := congrArg List.length hE'
    rw [numE_len, numE_len] at this; omega
  have hjl : j < (ring E').length := by rw [ring_len]; omega
  have hbk : nm E' j ∈ numE E' := by rw [nm_rg hjl]; exact numE_mem hjl
  have h0 : 0 ∈ numE E' := List.mem_cons_self ..
  have hnx : nm E' (j + 1) ∈ numE E' := by
    by_cases c : j + 1 < (ring E').length
    · rw [nm_rg c]; exact numE_mem c
    · rw [nm_out (by omega)]; exact h0
  have hself : ∀ m ∈ numE E', ∃ b, t.get m = some b := by
    intro m hm
    obtain ⟨i, hi, e⟩ := List.mem_iff_getElem.1 hm
    obtain ⟨h2, h3⟩ := numE_get (E := E') (i := i) (n := m) (by rw [List.getElem?_eq_getElem hi, e])
    exact ⟨_, by rw [h3]; exact g.get i _ (rg_get h2)⟩
  obtain ⟨bb, hbb⟩ := hself _ hbk
  obtain ⟨bx, hbx⟩ := hself _ hnx
  have key := laid_get (rg E' j).stop (up8N l) hgid hbb hbx (by intro e; exact hout (e ▸ hbk)) (by intro e; exact hout (e ▸ hnx))
  have kout : ∀ m, m ≠ id + 1 → m ∉ numE E → (t.laid (id + 1) (nm E' j) (nm E' (j + 1)) (rg E' j).stop (up8N l)).get m = s.get m := by
    intro m hm hn
    have hn' : m ∉ numE E' := by rw [hE']; exact hn
    rw [key, if_neg hm, if_neg (by rintro rfl; exact hn' hnx), if_neg (by rintro rfl; exact hn' hbk), hget m hn]
    exact took_get _ _ _ hm
  have kid : (t.laid (id + 1) (nm E' j) (nm E' (j + 1)) (rg E' j).stop (up8N l)).get (id + 1) = some ⟨true, (rg E' j).stop, l, (nm E' j : Nat), (nm E' (j + 1) : Nat)⟩ := by rw [key, if_pos rfl]
  have hmem : ∀ m, m ∈ (ring (insE E' j ⟨id + 1, (rg E' j).stop, l⟩)).map Ex.n ↔ m = id + 1 ∨ m ∈ numE E := by
    intro m
    rw [(insE_num _).mem_iff, List.mem_cons, ← hE']; rfl
  refine ⟨R.good ⟨?_, ?_, ?_, ?_, ?_⟩, ?_⟩
  · intro i b hb hn
    rw [hmem] at hn
    rw [← get_blks, kout (i + 1) (fun e => hn (.inl e)) (fun e => hn (.inr e)), get_blks] at hb
    exact h.zero i b hb (fun e => hn (.inr e))
  · rw [laid_free, hfr]; exact h.heap
  · rw [laid_free, hfr]; exact h.nodupF
  · intro x
    rw [laid_free, hfr, h.free x]
    have kk : ∀ i : Nat, (i ≠ id ∧ s.blks[i]? = some noBlk) ↔ (t.laid (id + 1) (nm E' j) (nm E' (j + 1)) (rg E' j).stop (up8N l)).blks[i]? = some noBlk := by
      intro i
      by_cases c1 : i = id
      · subst c1
        constructor
        · rintro ⟨e, _⟩; exact absurd rfl e
        · intro e
          rw [← get_blks, kid] at e
          cases e
      · by_cases c2 : i + 1 ∈ numE E
        · obtain ⟨b1, e1, l1⟩ := ring_live h.rng i c2
          obtain ⟨b2, e2, l2⟩ := ring_live R i ((hmem _).2 (.inr c2))
          rw [e1, e2]
          constructor
          · rintro ⟨_, e⟩; cases e; cases l1
          · rintro e; cases e; cases l2
        · rw [← get_blks, ← get_blks, kout (i + 1) (by omega) c2]
          exact ⟨fun e => e.2, fun e => ⟨c1, e⟩⟩
    constructor
    · rintro ⟨i, e, h1⟩; exact ⟨i, e, (kk i).1 h1⟩
    · rintro ⟨i, e, h1⟩; exact ⟨i, e, (kk i).2 h1⟩
  · rw [laid_used, hus, h.used]
    have : sumE (insE E' j ⟨id + 1, (rg E' j).stop, l⟩) = sumE E + up8N l := by rw [sumE_ins, hsum]
    unfold sumE at this
    rw [this]; push_cast; rfl
  · intro i
    by_cases c1 : i = id
    · rw [if_pos c1, c1]
      unfold held
      rw [← get_blks, kid]
      simp only [if_true, Int.toNat_natCast, laid_row]
      rw [layRow_in _ _ _ _ (up8N_ge l)]
    · rw [if_neg c1]
      by_cases c2 : i + 1 ∈ numE E
      · obtain ⟨k, hk, hki⟩ := mem_rg c2 (by omega)
        rw [held_rg h.rng hk hki]
        obtain ⟨hb1, hb2⟩ := hby k hk
        have hk' : k + 1 < (ring E').length := by rw [ring_len, hEl]; rw [ring_len] at hk; omega
        have hn' : (rg E' (k + 1)).n = (rg E (k + 1)).n := by
          have := congrArg (fun L => L[k + 1]?) hE'
          unfold numE at this
          simp only [List.getElem?_map, rg_get hk, rg_get hk', Option.map_some] at this
          exact Option.some.inj this
        rw [← hb2, ← laid_bytes g hj (n := id + 1) hroom (k + 1) hk' (nm E' j) (nm E' (j + 1))]
        have hlt : (ring (insE E' j ⟨id + 1, (rg E' j).stop, l⟩)).length = E'.length + 2 := by rw [ring_len, insE_len _ hj]
        by_cases c3 : k + 1 ≤ j
        · have e1 : rg (insE E' j ⟨id + 1, (rg E' j).stop, l⟩) (k + 1) = rg E' (k + 1) := rg_of (by rw [insE_get _ hj, if_pos c3]; exact rg_get hk')
          have := held_rg R (k := k) (by omega) (id := i) (by rw [e1, hn']; exact hki)
          rw [this, e1]
        · have hkl := hk'
          rw [ring_len] at hkl
          have e1 : rg (insE E' j ⟨id + 1, (rg E' j).stop, l⟩) (k + 1 + 1) = rg E' (k + 1) := rg_of (by rw [insE_get _ hj, if_neg (by omega), if_neg (by omega), Nat.add_sub_cancel]; exact rg_get hk')
          have := held_rg R (k := k + 1) (by omega) (id := i) (by rw [e1, hn']; exact hki)
          rw [this, e1]
      · refine held_get i (kout _ (by omega) c2) ?_
        intro b hb hlv
        rw [get_blks] at hb
        rcases h.zero i b hb c2 with rfl | rfl
        · cases hlv
        · rfl
end
end Go.Proofs.YtgmimmdojkoppaaGreatDoor.W
/- Package store: Good behind Take, whatever seek finds. -/
namespace Go.Proofs.YtgmimmdojkoppaaGreatDoor.W
set_option linter.unusedVariables false
section
variable {s : Sto} {E : List Ex}
theorem nm_numE (i : Nat) : (numE E)[i]?.getD 0 = nm E i := by unfold nm numE; rw [List.getElem?_map]
theorem packE_lens (e : Ex) (he : e ∈ packE E) : ∃ f ∈ E, f.l = e.l := by
  obtain ⟨i, hi, rfl⟩ := List.mem_iff_getElem.1 he
  have h1 := packE_get (E := E) (i := i + 1) (by rw [packE_len] at hi; rw [ring_len]; omega)
  unfold ring at h1
  rw [List.getElem?_cons_succ, List.getElem?_eq_getElem hi] at h1
  rw [Option.some.inj h1]
  exact ⟨_, rg_memE (E := E) (i := i) (by rw [packE_len] at hi; rw [ring_len]; omega), rfl⟩
theorem packE_sum : sumE (packE E) = sumE E := packed_used
theorem insE_mem {j : Nat} {e f : Ex} (h : f ∈ insE E j e) : f = e ∨ f ∈ E := by
  unfold insE at h
  rcases List.mem_append.1 h with h | h
  · exact .inr (List.mem_of_mem_take h)
  · rcases List.mem_cons.1 h with h | h
    · exact .inl h
    · exact .inr (List.mem_of_mem_drop h)
theorem stop_int (e : Ex) : (e.p : Int) + up8 (e.l : Int) = (e.stop : Nat) := by rw [up8N_eq]; unfold Ex.stop; push_cast; rfl
abbrev skG (t : Sto) (E : List Ex) (size : Int) (s4 : Sto) (bk nx q : Nat) : Prop := SeekG t (numE E) (fun i => blkOf E i (rg E i)) (fun i => (rg E i).p) (fun i => (rg E i).l) (fun i => up8N (rg E i).l) (enE E) size s4 bk nx q
theorem seekG_good {id l bk nx q : Nat} {s4 : Sto} (h : Half s E id) (hid : id < s.blks.length) (hl : 0 < l) (hG : skG (s.took id l) E (up8N l : Nat) s4 bk nx q) :
    ∃ E', Good (s4.laid (id + 1) bk nx q (up8N l)) E' ∧ (∀ i, held (s4.laid (id + 1) bk nx q (up8N l)) i = if i = id then some (List.replicate l 0) else held s i) ∧ (∀ e ∈ E', e.l = l ∨ ∃ f ∈ E, f.l = e.l) ∧ sumE E' = sumE E + up8N l ∧ (s4.laid (id + 1) bk nx q (up8N l)).blks.length = s.blks.length ∧ (s4.laid (id + 1) bk nx q (up8N l)).row.length ≤ max s.row.length (2 * (sumE E + up8N l) + 64) := by
  have R := half_took h (l : Int)
  have hus : (s.took id l).used = s.used + (up8N l : Nat) := by
    show s.used + up8 (l : Int) = _
    rw [up8N_eq]
  have hbl : (s.took id l).blks.length = s.blks.length := by
    show (s.blks.set id _).length = _
    simp
  rcases hG with ⟨j, b, hbk, rfl, hnx, hq, hroom⟩ | ⟨hd, b, rfl, hbk, rfl, hq⟩
  · obtain ⟨hjl, hbk'⟩ := numE_get hbk
    have hj : j ≤ E.length := by rw [ring_len] at hjl; omega
    have e1 : bk = nm E j := by rw [nm_rg hjl]; exact hbk'
    have e2 : nx = nm E (j + 1) := by rw [hnx, nm_numE]
    have e3 : q = (rg E j).stop := hq
    have gj := R.get j _ (rg_get hjl)
    unfold roomAt roomOf at hroom
    rw [getD_get hbk, hbk', getD_of gj, nm_numE] at hroom
    have hst : (blkOf E j (rg E j)).stop = ((rg E j).stop : Nat) := stop_int _
    rw [hst] at hroom
    have hr1 : j < E.length → (rg E j).stop + up8N l ≤ (rg E (j + 1)).p := by
      intro hjE
      have h1 : j + 1 < (ring E).length := by rw [ring_len]; omega
      rw [nm_rg h1, if_neg (h.rng.lies.2.1 _ (rg_memE h1)).2.2, getD_of (R.get (j + 1) _ (rg_get h1))] at hroom
      have : (blkOf E (j + 1) (rg E (j + 1))).pos = ((rg E (j + 1)).p : Nat) := rfl
      omega
    have hr2 : j = E.length → (rg E j).stop + up8N l ≤ 2 * (sumE E + up8N l) + 64 := by
      intro hjE
      rw [nm_out (by rw [ring_len]; omega), if_pos rfl, hus, h.used] at hroom
      change _ ≤ 2 * (((sumE E : Nat) : Int) + _) + 64 - _ at hroom
      omega
    subst e1 e2
    have T : Ring ((s.took id l).turn (nm E j : Nat) b) E := ⟨R.nodup, R.lies, R.get, R.byte, ⟨rg E j, rg_mem hjl, by rw [← nm_rg hjl]; rfl⟩, R.row8⟩
    have hh := half_good h hid rfl rfl T hj hl rfl hus hbl e3 (fun m _ => rfl) (fun k hk => ⟨rfl, rfl⟩) hr1
    refine ⟨_, hh.1, hh.2, ?_, sumE_ins _, ?_, ?_⟩
    · intro e he
      rcases insE_mem he with rfl | he
      · exact .inl rfl
      · exact .inr ⟨e, he, rfl⟩
    · rw [laid_len]; exact hbl
    · rw [laid_row, layRow_len]
      show max s.row.length (q + up8N l) ≤ _
      by_cases c : j < E.length
      · have h1 := hr1 c
        have h2 := h.rng.lies.2.2 _ (rg_mem (E := E) (i := j + 1) (by rw [ring_len]; omega))
        unfold Ex.stop at h2
        rw [e3]; omega
      · have := hr2 (by omega)
        rw [e3]; omega
  · have hc : 0 < (numE E).length := by rw [numE_len]; omega
    rw [packed_turn hd b hc]
    have T := ring_packed R
    have hl2 : (packE E).length = E.length := packE_len
    have hjl : (packE E).length < (ring E).length := by rw [hl2, ring_len]; omega
    have hn1 : (numE E).length - 1 = (packE E).length := by rw [numE_len, hl2]; omega
    rw [hn1] at hbk
    have e1 : bk = nm (packE E) (packE E).length := by
      rw [← nm_numE, packE_num, hbk]; rfl
    have e2 : 0 = nm (packE E) ((packE E).length + 1) := (nm_out (by rw [ring_len]; omega)).symm
    have hrg : rg (packE E) (packE E).length = ⟨(rg E (packE E).length).n, enE E (packE E).length, (rg E (packE E).length).l⟩ := packE_rg hjl
    have e3 : q = (rg (packE E) (packE E).length).stop := by
      rw [hq, hrg]
      show enE E (numE E).length = enE E (packE E).length + up8N _
      rw [show (numE E).length = (packE E).length + 1 by omega]; rfl
    have hpr := packN_rest (s := s.took id l) (c := numE E) (bl := fun i => blkOf E i (rg E i)) (p := fun i => (rg E i).p) (l := fun i => (rg E i).l) (en := enE E) (numE E).length
    have hh := half_good h hid packE_num packE_sum T (Nat.le_refl _) hl hpr.1 (hpr.2.1.trans hus) ((packN_blks _).trans hbl) e3 (fun m hm => packN_other _ _ (Nat.le_refl _) hm) (fun k hk => by
      rw [packE_rg hk]
      refine ⟨rfl, ?_⟩
      show seg ((pkE (s.took id l) E (numE E).length).row.take (enE E (numE E).length)) (enE E (k + 1)) (rg E (k + 1)).l = _
      have hb := (ring_bytes R (numE E).length (by rw [numlen]; omega)).2 (k + 1) (by rw [numlen]; omega)
      have hle := enE_le_all (E := E) hk
      have hu := up8N_ge (rg E (k + 1)).l
      rw [seg_take _ _ _ _ (by rw [numlen]; omega), hb]; rfl) (fun hh => absurd hh (by omega))
    rw [← e1, ← e2] at hh
    refine ⟨_, hh.1, hh.2, ?_, (sumE_ins _).trans (by rw [packE_sum]), ?_, ?_⟩
    · intro e he
      rcases insE_mem he with rfl | he
      · exact .inl rfl
      · exact .inr (packE_lens e he)
    · rw [laid_len]; exact (packN_blks _).trans hbl
    · rw [laid_row, layRow_len, pkd_row R]
      have : q = sumE E := by rw [hq, numlen, enE_sum]
      rw [this, enE_sum]
      omega
end
end Go.Proofs.YtgmimmdojkoppaaGreatDoor.W
/- Package store: the least Id; what all Ids hold, as a list. -/
namespace Go.Proofs.YtgmimmdojkoppaaGreatDoor.W
set_option linter.unusedVariables false
section
variable {s : Sto} {E : List Ex}
theorem held_none (g : Good s E) {i : Nat} (hi : i < s.blks.length) : held s i = none ↔ (i : Int) ∈ s.free := by
  rw [g.free]
  have hb : s.blks[i]? = some s.blks[i] := List.getElem?_eq_getElem hi
  constructor
  · intro h
    refine ⟨i, rfl, ?_⟩
    by_cases c : i + 1 ∈ numE E
    · obtain ⟨b, e, l⟩ := ring_live g.rng i c
      unfold held at h
      rw [e] at h
      simp [l] at h
    · rcases g.zero i _ hb c with e | e
      · rw [hb, e]
      · unfold held at h
        rw [hb, e] at h
        simp at h
  · rintro ⟨k, e, h⟩
    have : i = k := by omega
    subst this
    unfold held
    rw [h]; rfl
/-- what all Ids hold -/
def All (s : Sto) (A : List (Option (List Nat))) : Prop := s.blks.length = A.length ∧ ∀ i, held s i = (A[i]?).getD none
theorem All.at {A : List (Option (List Nat))} (h : All s A) {i : Nat} (hi : i < A.length) : held s i = A[i] := by
  rw [h.2, List.getElem?_eq_getElem hi]; rfl
def leastA (A : List (Option (List Nat))) : Nat := A.findIdx (fun x => x.isNone)
theorem least_none {A : List (Option (List Nat))} (h : All s A) (g : Good s E) (hf : s.free = []) : leastA A = A.length := by
  unfold leastA
  rw [List.findIdx_eq_length]
  intro x hx
  obtain ⟨i, hi, rfl⟩ := List.mem_iff_getElem.1 hx
  cases e : A[i] with
  | some y => rfl
  | none =>
    have h1 := h.at hi
    rw [e, held_none g (by rw [h.1]; exact hi), hf] at h1
    cases h1
theorem least_some {A : List (Option (List Nat))} (h : All s A) (g : Good s E) (hf : 0 < s.free.length) : hp s.free 0 = (leastA A : Nat) ∧ leastA A < A.length := by
  have hm : hp s.free 0 ∈ s.free := by
    unfold hp
    rw [List.getD, List.getElem?_eq_getElem hf]
    exact List.getElem_mem _
  obtain ⟨k, hk, hb⟩ := (g.free _).1 hm
  have hkl : k < A.length := by rw [← h.1]; exact (List.getElem?_eq_some_iff.1 hb).1
  have hkn : A[k] = none := by
    rw [← h.at hkl, held_none g (by rw [h.1]; exact hkl), ← hk]; exact hm
  have : leastA A = k := by
    unfold leastA
    rw [List.findIdx_eq hkl]
    refine ⟨by rw [hkn]; rfl, ?_⟩
    intro j hj
    cases e : A[j] with
    | some y => rfl
    | none =>
      exfalso
      have h1 := h.at (i := j) (by omega)
      rw [e, held_none g (by rw [h.1]; omega)] at h1
      obtain ⟨q, hq, e2⟩ := List.mem_iff_getElem.1 h1
      have h2 := heap_least g.heap q hq
      have h3 : hp s.free q = (j : Int) := by unfold hp; rw [List.getD, List.getElem?_eq_getElem hq]; exact e2
      omega
  rw [this]
  exact ⟨hk, hkl⟩
def putA (A : List (Option (List Nat))) (id : Nat) (x : Option (List Nat)) : List (Option (List Nat)) := if id < A.length then A.set id x else A ++ [x]
theorem half_new {A : List (Option (List Nat))} (h : All s A) (g : Good s E) (hf : s.free = []) : Half { s with blks := s.blks ++ [noBlk] } E s.blks.length ∧ ∀ i, held { s with blks := s.blks ++ [noBlk] } i = held s i := by
  have hout : s.blks.length + 1 ∉ numE E := by
    intro c
    obtain ⟨b, e, _⟩ := ring_live g.rng _ c
    have := (List.getElem?_eq_some_iff.1 e).1
    omega
  have hold : ∀ i, i ≠ s.blks.length → (s.blks ++ [noBlk])[i]? = s.blks[i]? := by
    intro i hi
    by_cases c : i < s.blks.length
    · rw [List.getElem?_append_left c]
    · rw [List.getElem?_eq_none (by simp; omega), List.getElem?_eq_none (by omega)]
  have hnew : (s.blks ++ [noBlk])[s.blks.length]? = some noBlk := by simp
  refine ⟨⟨g.rng.congr ?_ rfl rfl, hout, hnew, ?_, g.heap, g.nodupF, ?_, g.used⟩, ?_⟩
  · intro m hm
    by_cases c : m = 0
    · rw [c]; rfl
    · obtain ⟨k, rfl⟩ : ∃ k, m = k + 1 := ⟨m - 1, by omega⟩
      rw [get_blks, get_blks]
      exact hold k (by rintro rfl; exact hout hm)
  · intro i b hb hn
    by_cases c : i = s.blks.length
    · subst c; change (s.blks ++ [noBlk])[s.blks.length]? = _ at hb; rw [hnew] at hb; cases hb; exact .inl rfl
    · change (s.blks ++ [noBlk])[i]? = _ at hb
      rw [hold i c] at hb
      exact g.zero i b hb hn
  · intro x
    show x ∈ s.free ↔ ∃ i : Nat, x = i ∧ i ≠ s.blks.length ∧ (s.blks ++ [noBlk])[i]? = some noBlk
    rw [g.free]
    constructor
    · rintro ⟨i, e, hb⟩
      have : i ≠ s.blks.length := by
        have := (List.getElem?_eq_some_iff.1 hb).1; omega
      exact ⟨i, e, this, by rw [hold i this]; exact hb⟩
    · rintro ⟨i, e, hi, hb⟩
      exact ⟨i, e, by rw [← hold i hi]; exact hb⟩
  · intro i
    unfold held
    show (match (s.blks ++ [noBlk])[i]? with | some b => _ | none => _) = _
    by_cases c : i = s.blks.length
    · subst c; rw [hnew, List.getElem?_eq_none (Nat.le_refl _)]; rfl
    · rw [hold i c] <;> rfl
theorem half_pop {id : Nat} {free' : List Int} (g : Good s E) (hid : hp s.free 0 = (id : Nat)) (hp' : (hp s.free 0 :: free').Perm s.free) (hh : IsHeap free' free'.length) : Half (s.fr free') E id ∧ ∀ i, held (s.fr free') i = held s i := by
  rw [hid] at hp'
  have hm : (id : Int) ∈ s.free := hp'.mem_iff.1 (List.mem_cons_self ..)
  obtain ⟨k, hk, hb⟩ := (g.free _).1 hm
  have : id = k := by omega
  subst this
  have hnd := hp'.nodup_iff.2 g.nodupF
  rw [List.nodup_cons] at hnd
  refine ⟨⟨g.rng.congr (fun _ _ => rfl) rfl rfl, ?_, hb, g.zero, hh, hnd.2, ?_, g.used⟩, fun i => rfl⟩
  · intro c
    obtain ⟨b, e, l⟩ := ring_live g.rng _ c
    rw [hb] at e; cases e; cases l
  · intro x
    show x ∈ free' ↔ _
    constructor
    · intro hx
      have h1 : x ∈ s.free := hp'.mem_iff.1 (List.mem_cons_of_mem _ hx)
      obtain ⟨i, e, hb⟩ := (g.free x).1 h1
      refine ⟨i, e, ?_, hb⟩
      rintro rfl
      exact hnd.1 (e ▸ hx)
    · rintro ⟨i, e, hi, hb⟩
      have h1 : x ∈ s.free := (g.free x).2 ⟨i, e, hb⟩
      rcases List.mem_cons.1 (hp'.mem_iff.2 h1) with c | c
      · omega
      · exact c
/-- no bytes taken -/
theorem half_zero {id : Nat} (h : Half s E id) (hid : id < s.blks.length) : Good (s.took id 0) E ∧ ∀ i, held (s.took id 0) i = if i = id then some [] else held s i := by
  have hs : ∀ i, i ≠ id → (s.took id 0).blks[i]? = s.blks[i]? := fun i hi => blks_set_get _ _ _ hi
  have hi' : (s.took id 0).blks[id]? = some ⟨true, 0, 0, 0, 0⟩ := by rw [← get_blks]; exact took_get_id _ _ hid
  refine ⟨(half_took h 0).good ⟨?_, h.heap, h.nodupF, ?_, ?_⟩, ?_⟩
  · intro i b hb hn
    by_cases c : i = id
    · subst c; rw [hi'] at hb; cases hb; exact .inr rfl
    · rw [hs i c] at hb; exact h.zero i b hb hn
  · intro x
    show x ∈ s.free ↔ _
    rw [h.free]
    constructor
    · rintro ⟨i, e, hi, hb⟩; exact ⟨i, e, by rw [hs i hi]; exact hb⟩
    · rintro ⟨i, e, hb⟩
      have : i ≠ id := by rintro rfl; rw [hi'] at hb; cases hb
      exact ⟨i, e, this, by rw [← hs i this]; exact hb⟩
  · show s.used + up8 0 = _
    rw [h.used, show up8 0 = 0 from rfl, Int.add_zero]
  · intro i
    by_cases c : i = id
    · rw [if_pos c, c]
      unfold held
      rw [hi']; rfl
    · rw [if_neg c]
      unfold held
      rw [hs i c]; rfl
end
end Go.Proofs.YtgmimmdojkoppaaGreatDoor.W
/- Package store: its faces over what all Ids hold: Take. -/
namespace Go.Proofs.YtgmimmdojkoppaaGreatDoor.W
open Go.ChangeShapes Go.WideShapes Go.RowKit Go.Shelf
set_option linter.unusedVariables false
def lenA : Option (List Nat) → Nat
  | some x => up8N x.length
  | none => 0
/-- the bytes of all, rounded up -/
def sumA (A : List (Option (List Nat))) : Nat := (A.map lenA).foldr (· + ·) 0
theorem sumA_cons (x : Option (List Nat)) (A : List (Option (List Nat))) : sumA (x :: A) = lenA x + sumA A := rfl
theorem sumA_set (A : List (Option (List Nat))) (i : Nat) (x : Option (List Nat)) (h : i < A.length) : sumA (A.set i x) + lenA A[i] = sumA A + lenA x := by
  induction A generalizing i with
  | nil => exact absurd h (by simp)
  | cons a A ih =>
    cases i with
    | zero => simp only [List.set_cons_zero, sumA_cons, List.getElem_cons_zero]; omega
    | succ i =>
      have := ih i (by simpa using h)
      simp only [List.set_cons_succ, sumA_cons, List.getElem_cons_succ]; omega
theorem sumA_snoc (A : List (Option (List Nat))) (x : Option (List Nat)) : sumA (A ++ [x]) = sumA A + lenA x := by
  induction A with
  | nil => simp [sumA]
  | cons a A ih => rw [List.cons_append, sumA_cons, sumA_cons, ih]; omega
/-- how a store lies whose Ids hold A; U: bytes at most, N: Ids at most -/
structure Fine (s : Sto) (E : List Ex) (A : List (Option (List Nat))) (U N : Nat) : Prop where
  good : Good s E
  all : All s A
  sum : sumE E = sumA A
  lens : ∀ e ∈ E, e.l ≤ 8388608
  row : s.row.length ≤ 2 * U + 64
  top : sumA A ≤ U
  num : A.length ≤ N
  u9 : U ≤ 100000000000
  n9 : N ≤ 100000000
def St (W : World) (S : Nat → Prop) (sb : Nat) (A : List (Option (List Nat))) (U N : Nat) : Prop := ∃ s E vr vb vf, Lay W sb vr vb vf s ∧ Own S sb vr vb vf ∧ Fine s E A U N
section
variable {s : Sto} {E : List Ex} {A : List (Option (List Nat))} {U N : Nat}
theorem ring_fit {t : Sto} (g : Ring t E) (hl : ∀ e ∈ E, e.l ≤ 8388608) (hr : t.row.length ≤ 1000000000000) (hb : t.blks.length ≤ 1000000000) (hu0 : 0 ≤ t.used) (hu1 : t.used ≤ 1000000000000) (ho : ∀ i b, t.blks[i]? = some b → i + 1 ∉ numE E → b.pos = 0 ∧ 0 ≤ b.len ∧ b.len ≤ 100000000) : Fit t := by
  refine ⟨hb, hr, g.byte, hu0, hu1, ?_⟩
  intro n b hb
  by_cases c : n ∈ numE E
  · obtain ⟨i, hi, e⟩ := List.mem_iff_getElem.1 c
    obtain ⟨h2, h3⟩ := numE_get (E := E) (i := i) (n := n) (by rw [List.getElem?_eq_getElem hi, e])
    have := g.get i _ (rg_get h2)
    rw [← h3, hb] at this
    cases this
    have h4 := g.lies.2.2 _ (rg_mem h2)
    unfold Ex.stop at h4
    have h5 : (rg E i).l ≤ 8388608 := by
      cases i with
      | zero => show (0 : Nat) ≤ _; omega
      | succ i => exact hl _ (rg_memE h2)
    refine ⟨?_, ?_, ?_, ?_⟩
    · show (0 : Int) ≤ ((rg E i).p : Nat); omega
    · show ((rg E i).p : Int) ≤ _; omega
    · show (0 : Int) ≤ ((rg E i).l : Nat); omega
    · show ((rg E i).l : Int) ≤ _; omega
  · have h0 : n ≠ 0 := by rintro rfl; exact c (List.mem_cons_self ..)
    obtain ⟨k, rfl⟩ : ∃ k, n = k + 1 := ⟨n - 1, by omega⟩
    rw [get_blks] at hb
    obtain ⟨a1, a2, a3⟩ := ho k b hb c
    exact ⟨by omega, by omega, a2, a3⟩
theorem Fine.used (f : Fine s E A U N) : s.used = (sumA A : Nat) := by rw [f.good.used]; exact congrArg _ f.sum
theorem Fine.fit (f : Fine s E A U N) : Fit s := by
  have h1 := f.row; have h2 := f.top; have h3 := f.num; have h4 := f.u9; have h5 := f.n9; have h6 := f.used; have h7 := f.all.1
  refine ring_fit f.good.rng f.lens (by omega) (by omega) (by omega) (by omega) ?_
  intro i b hb hn
  rcases f.good.zero i b hb hn with rfl | rfl
  · exact ⟨rfl, Int.le_refl _, by decide⟩
  · exact ⟨rfl, Int.le_refl _, by decide⟩
theorem all_put {s' : Sto} {id : Nat} {x : List Nat} {s1 : Sto} (h : All s A) (hid : id ≤ A.length) (hl : s'.blks.length = if id < A.length then A.length else A.length + 1) (hh : ∀ i, held s' i = if i = id then some x else held s i) : All s' (putA A id (some x)) := by
  unfold putA
  by_cases c : id < A.length
  · rw [if_pos c] at hl ⊢
    refine ⟨by rw [hl, List.length_set], fun i => ?_⟩
    rw [hh]
    by_cases e : i = id
    · subst e; rw [if_pos rfl, List.getElem?_set_self c]; rfl
    · rw [if_neg e, List.getElem?_set_ne (by omega)]; exact h.2 i
  · rw [if_neg c] at hl ⊢
    refine ⟨by rw [hl, List.length_append]; rfl, fun i => ?_⟩
    rw [hh]
    by_cases e : i = id
    · subst e; rw [if_pos rfl, show i = A.length by omega]; simp
    · rw [if_neg e, h.2 i]
      by_cases d : i < A.length
      · rw [List.getElem?_append_left d]
      · rw [List.getElem?_eq_none (by omega), List.getElem?_eq_none (by simp; omega)]
theorem sumA_put (A : List (Option (List Nat))) (x : List Nat) : sumA (putA A (leastA A) (some x)) = sumA A + up8N x.length := by
  unfold putA
  by_cases c : leastA A < A.length
  · rw [if_pos c]
    have h1 := sumA_set A (leastA A) (some x) c
    have h2 : A[leastA A] = none := by
      have := List.findIdx_getElem (w := c)
      exact Option.isNone_iff_eq_none.1 this
    rw [h2] at h1
    simpa [lenA] using h1
  · rw [if_neg c, sumA_snoc]; rfl
theorem putA_len (A : List (Option (List Nat))) (id : Nat) (x : Option (List Nat)) : (putA A id x).length = if id < A.length then A.length else A.length + 1 := by
  unfold putA; split <;> simp
end
end Go.Proofs.YtgmimmdojkoppaaGreatDoor.W
/- Package store: Take, the state behind leastId being told by a predicate. -/
namespace Go.Proofs.YtgmimmdojkoppaaGreatDoor.W
open Go.ChangeShapes Go.WideShapes Go.RowKit Go.Shelf
set_option linter.unusedVariables false
section
variable {W : World} {sb : Nat} {vr vb vf : Value} {s : Sto}
set_option maxHeartbeats 2000000 in
theorem take_g (n : Int) (u : Nat) (hn0 : 0 < n) (hn1 : n ≤ 8388608) (hu : up8 n = u) (id : Nat) (hid9 : id ≤ 100000000) (P : Sto → Prop) (hP : ∀ s1, P s1 → id < s1.blks.length ∧ s1.blks.length ≤ 100000000 ∧ 0 ≤ s1.used ∧ s1.used ≤ 100000000000) {S : Nat → Prop} (G : Sto → Sto → Nat → Nat → Nat → Prop)
    (cl : Calls Tryz.prog 221 #[.pointer (some ⟨sb, 0, none⟩)] W fun e w' => e = .returned (.int .i64 id) ∧ Upd S W w' ∧ ∃ s1, P s1 ∧ ∃ vr1 vb1 vf1, Lay w' sb vr1 vb1 vf1 s1 ∧ Own (Nx S W w') sb vr1 vb1 vf1)
    (hseek : ∀ s1, P s1 → ∀ W3 S3 vr3 vb3 vf3, Lay W3 sb vr3 vb3 vf3 (s1.took id n) → Own S3 sb vr3 vb3 vf3 → Calls Tryz.prog 266 #[.pointer (some ⟨sb, 0, none⟩), .int .i64 (u : Int)] W3 (SeekPost S3 W3 sb vb3 vf3 (id + 1) ⟨true, 0, n, 0, 0⟩ (G s1))) :
    Calls Tryz.prog 181 #[.pointer (some ⟨sb, 0, none⟩), .int .i64 n] W fun e w' => e = .returned (.tuple #[.int .i64 id, .int .i64 0]) ∧ Upd S W w' ∧ ∃ s1, P s1 ∧ ∃ s4 bk nx p, G s1 s4 bk nx p ∧ ∃ vr4 vb4 vf4, Lay w' sb vr4 vb4 vf4 (s4.laid (id + 1) bk nx p u) ∧ Own (Nx S W w') sb vr4 vb4 vf4 := by
  have hu1 : (u : Int) ≤ 8388616 := by unfold up8 at hu; omega
  have cu := fun w => roundUp_c n w (by omega) (by omega)
  rw [hu] at cu
  have cn := fun w => number_c id w (by omega) (by omega)
  go_enter Tryz.func181, Tryz.ntmps181
  go_upto_region 6 with (go_at_call 221; (with_reducible refine cl.mono ?_); rintro e W1 ⟨rfl, hU1, s1, hPs, vr1, vb1, vf1, hL1, hO1⟩; clear cl)
  obtain ⟨hid, hl1, hus0, hus1⟩ := hP s1 hPs
  clear hP
  obtain ⟨g, cap, hvb, hcap⟩ := own_slice hL1.blk (by omega)
  have c6 := hL1.cell 6
  simp [Sto.obj, hvb] at c6
  obtain ⟨b0, hb0⟩ : ∃ b0, s1.get (id + 1) = some b0 := ⟨s1.blks[id], by unfold Sto.get; rw [if_neg (by omega)]; exact List.getElem?_eq_getElem hid⟩
  have pt : Pt sb vb1 (id + 1) g (id * 5) := .inr ⟨by omega, by rw [hvb]; rfl, by simp⟩
  obtain ⟨a0, a1, a2, a3, a4⟩ := bcells hL1 hb0 pt
  have t0 := hL1.bthaw hb0 pt 0
  have t1 := hL1.bthaw hb0 pt 1
  have t2 := hL1.bthaw hb0 pt 2
  have t3 := hL1.bthaw hb0 pt 3
  have t4 := hL1.bthaw hb0 pt 4
  simp only [Nat.add_zero] at t0
  have i0 : (0 : Int) ≤ id := by omega
  have i1 : (id : Int) < s1.blks.length := by omega
  go_upto_region 7 with fail
  have hL2 := hL1.bfull hb0 pt ⟨true, 0, n, 0, 0⟩
  have hU2 := hU1.five (hO1.pt pt) (id * 5) (id * 5 + 1) (id * 5 + 2) (id * 5 + 3) (id * 5 + 4) (.bool true) (.int .i64 0) (.int .i64 n) (.int .i64 0) (.int .i64 0)
  have z2 : (((((W1.setCell ⟨g, id * 5, none⟩ (.bool true)).setCell ⟨g, id * 5 + 1, none⟩ (.int .i64 0)).setCell ⟨g, id * 5 + 2, none⟩ (.int .i64 n)).setCell ⟨g, id * 5 + 3, none⟩ (.int .i64 0)).setCell ⟨g, id * 5 + 4, none⟩ (.int .i64 0)).heap.size = W1.heap.size := by simp [World.setCell]
  clear t0 t1 t2 t3 t4 a0 a1 a2 a3 a4 c6
  dsimp only at hL2
  generalize World.setCell (World.setCell (World.setCell (World.setCell (World.setCell W1 _ _) _ _) _ _) _ _) _ _ = W2 at *
  have c8 := hL2.cell 8
  simp [Sto.obj, set_used] at c8
  have th8 := hL2.thaw 8
  have hw8 : IntKind.i64.wrap (s1.used + u) = s1.used + u := by rw [IntKind.wrap_i64]; omega
  have k8 : ∀ v : Value, (W2.drew.setCell ⟨sb, 8, none⟩ v).cell? ⟨sb, 8, none⟩ = some v := fun v => World.cell?_setCell_same' _ _ _ (by show (W2.cell? _).isSome = true; rw [c8]; rfl)
  have hcut : True := trivial
  go_region_with (go_at_call 218; (with_reducible refine (cu _).mono ?_); rintro e w' ⟨rfl, hw⟩; (have hw' := hw.symm); subst hw'; clear hw)
  all_goals (
    have hL3 : Lay (W2.setCell ⟨sb, 8, none⟩ (.int .i64 (s1.used + u))).drew sb vr1 vb1 vf1 (s1.took id n) := by
      refine (hL2.store (s' := s1.took id n) 8 _ ?_ ?_ ?_ ?_).drew
      · simp [Sto.obj, Sto.took, Sto.set, hu]
      · simp [Sto.took, Sto.set]
      · simp [Sto.took, Sto.set]
      · simp [Sto.took, Sto.set]
    have hU3 := (hU2.setCell (p := ⟨sb, 8, none⟩) (hO1.sb.on (Nat.le_of_eq z2.symm)) (.int .i64 (s1.used + u))).drew
    have z3 : (W2.setCell ⟨sb, 8, none⟩ (.int .i64 (s1.used + u))).drew.heap.size = W1.heap.size := by
      show (W2.setCell ⟨sb, 8, none⟩ (.int .i64 (s1.used + u))).heap.size = _
      simp [World.setCell, z2]
    clear c8 th8 k8 hL2 hU2 z2
    generalize World.drew (World.setCell W2 _ _) = W3 at *
    have hO3 : Own (Nx S W W3) sb vr1 vb1 vf1 := hO1.on (by omega)
    have gt : (s1.took id n).get (id + 1) = some ⟨true, 0, n, 0, 0⟩ := by
      unfold Sto.get Sto.took
      rw [if_neg (by omega)]
      simp [hid]
    have cy := lay_c hL3 (by simp [Sto.took]; omega) (id + 1) u ⟨true, 0, n, 0, 0⟩ gt hn0 (by dsimp only; omega) hu (G s1) (hseek s1 hPs W3 _ vr1 vb1 vf1 hL3 hO3)
    have hcast : ((id + 1 : Nat) : Int) = (id : Int) + 1 := by omega
    rw [hcast] at cy
    have HU := (show Hid _ from hU3)
    have hn0' : 0 < n := hn0
    clear hseek hL3 gt hL1 hO1 pt hb0 hU3
    go_wp2_with (first | (go_at_call 217; (with_reducible refine (cn _).mono ?_); rintro e w' ⟨rfl, hw⟩; (have hw' := hw.symm); subst hw'; clear hw) | (go_at_call 222; (with_reducible refine cy.mono ?_); rintro e W4 ⟨rfl, hU4, s4, bk, nx, p, hG, vr4, hL4, hO4⟩; clear cy))
    go_ret2
    exact ⟨rfl, HU.out.trans hU4, s1, hPs, s4, bk, nx, p, hG, vr4, _, _, hL4, hO4.mono (nx_nx HU.out.size hU4.size)⟩)
set_option maxHeartbeats 2000000 in
theorem take_g0 (id : Nat) (hid9 : id ≤ 100000000) (P : Sto → Prop) (hP : ∀ s1, P s1 → id < s1.blks.length ∧ s1.blks.length ≤ 100000000 ∧ 0 ≤ s1.used ∧ s1.used ≤ 100000000000) {S : Nat → Prop}
    (cl : Calls Tryz.prog 221 #[.pointer (some ⟨sb, 0, none⟩)] W fun e w' => e = .returned (.int .i64 id) ∧ Upd S W w' ∧ ∃ s1, P s1 ∧ ∃ vr1 vb1 vf1, Lay w' sb vr1 vb1 vf1 s1 ∧ Own (Nx S W w') sb vr1 vb1 vf1) :
    Calls Tryz.prog 181 #[.pointer (some ⟨sb, 0, none⟩), .int .i64 0] W fun e w' => e = .returned (.tuple #[.int .i64 id, .int .i64 0]) ∧ Upd S W w' ∧ ∃ s1, P s1 ∧ ∃ vr4 vb4 vf4, Lay w' sb vr4 vb4 vf4 (s1.took id 0) ∧ Own (Nx S W w') sb vr4 vb4 vf4 := by
  have cu := fun w => roundUp_c 0 w (by omega) (by omega)
  rw [show up8 0 = 0 from rfl] at cu
  go_enter Tryz.func181, Tryz.ntmps181
  go_upto_region 6 with (go_at_call 221; (with_reducible refine cl.mono ?_); rintro e W1 ⟨rfl, hU1, s1, hPs, vr1, vb1, vf1, hL1, hO1⟩; clear cl)
  obtain ⟨hid, hl1, hus0, hus1⟩ := hP s1 hPs
  clear hP
  obtain ⟨g, cap, hvb, hcap⟩ := own_slice hL1.blk (by omega)
  have c6 := hL1.cell 6
  simp [Sto.obj, hvb] at c6
  obtain ⟨b0, hb0⟩ : ∃ b0, s1.get (id + 1) = some b0 := ⟨s1.blks[id], by unfold Sto.get; rw [if_neg (by omega)]; exact List.getElem?_eq_getElem hid⟩
  have pt : Pt sb vb1 (id + 1) g (id * 5) := .inr ⟨by omega, by rw [hvb]; rfl, by simp⟩
  obtain ⟨a0, a1, a2, a3, a4⟩ := bcells hL1 hb0 pt
  have t0 := hL1.bthaw hb0 pt 0
  have t1 := hL1.bthaw hb0 pt 1
  have t2 := hL1.bthaw hb0 pt 2
  have t3 := hL1.bthaw hb0 pt 3
  have t4 := hL1.bthaw hb0 pt 4
  simp only [Nat.add_zero] at t0
  have i0 : (0 : Int) ≤ id := by omega
  have i1 : (id : Int) < s1.blks.length := by omega
  go_upto_region 7 with fail
  have hL2 := hL1.bfull hb0 pt ⟨true, 0, 0, 0, 0⟩
  have hU2 := hU1.five (hO1.pt pt) (id * 5) (id * 5 + 1) (id * 5 + 2) (id * 5 + 3) (id * 5 + 4) (.bool true) (.int .i64 0) (.int .i64 0) (.int .i64 0) (.int .i64 0)
  have z2 : (((((W1.setCell ⟨g, id * 5, none⟩ (.bool true)).setCell ⟨g, id * 5 + 1, none⟩ (.int .i64 0)).setCell ⟨g, id * 5 + 2, none⟩ (.int .i64 0)).setCell ⟨g, id * 5 + 3, none⟩ (.int .i64 0)).setCell ⟨g, id * 5 + 4, none⟩ (.int .i64 0)).heap.size = W1.heap.size := by simp [World.setCell]
  clear t0 t1 t2 t3 t4 a0 a1 a2 a3 a4 c6
  dsimp only at hL2
  generalize World.setCell (World.setCell (World.setCell (World.setCell (World.setCell W1 _ _) _ _) _ _) _ _) _ _ = W2 at *
  have c8 := hL2.cell 8
  simp [Sto.obj, set_used] at c8
  have th8 := hL2.thaw 8
  have hw8 : IntKind.i64.wrap s1.used = s1.used := by rw [IntKind.wrap_i64]; omega
  have k8 : ∀ v : Value, (W2.drew.setCell ⟨sb, 8, none⟩ v).cell? ⟨sb, 8, none⟩ = some v := fun v => World.cell?_setCell_same' _ _ _ (by show (W2.cell? _).isSome = true; rw [c8]; rfl)
  go_region_with (go_at_call 218; (with_reducible refine (cu _).mono ?_); rintro e w' ⟨rfl, hw⟩; (have hw' := hw.symm); subst hw'; clear hw)
  all_goals (
    have hL3 : Lay (W2.setCell ⟨sb, 8, none⟩ (.int .i64 s1.used)).drew sb vr1 vb1 vf1 (s1.took id 0) := by
      refine (hL2.store (s' := s1.took id 0) 8 _ ?_ ?_ ?_ ?_).drew
      · simp [Sto.obj, Sto.took, Sto.set, up8]
      · simp [Sto.took, Sto.set]
      · simp [Sto.took, Sto.set]
      · simp [Sto.took, Sto.set]
    have hU3 := (hU2.setCell (p := ⟨sb, 8, none⟩) (hO1.sb.on (Nat.le_of_eq z2.symm)) (.int .i64 s1.used)).drew
    have z3 : (W2.setCell ⟨sb, 8, none⟩ (.int .i64 s1.used)).drew.heap.size = W1.heap.size := by
      show (W2.setCell ⟨sb, 8, none⟩ (.int .i64 s1.used)).heap.size = _
      simp [World.setCell, z2]
    clear c8 th8 k8 hL2 hU2 z2
    generalize World.drew (World.setCell W2 _ _) = W3 at *
    have hO3 : Own (Nx S W W3) sb vr1 vb1 vf1 := hO1.on (by omega)
    go_wp2
    go_ret2
    exact ⟨rfl, hU3, s1, hPs, vr1, vb1, vf1, hL3, hO3⟩)
end
end Go.Proofs.YtgmimmdojkoppaaGreatDoor.W
