import Derived.Test.YtgkakflnmpoadaaGreatDoorBase3
import Derived.Test.YtgkakflnmpoadaaGreatDoorBase2
/- Package store: from the ring as a list to what Pack and seek ask. -/
namespace Go.Proofs.YtgkakflnmpoadaaGreatDoor.W
set_option linter.unusedVariables false
def rg (E : List Ex) (i : Nat) : Ex := (ring E).getD i front
/-- where packing puts the i-th -/
def enE (E : List Ex) : Nat → Nat
  | 0 => 0
  | i + 1 => enE E i + up8N (rg E i).l
def numE (E : List Ex) : List Nat := (ring E).map Ex.n
section
variable {s : Sto} {E : List Ex}
theorem rg_get {i : Nat} (h : i < (ring E).length) : (ring E)[i]? = some (rg E i) := by
  unfold rg
  rw [List.getD, List.getElem?_eq_getElem h]; rfl
theorem rg_of {i : Nat} {e : Ex} (h : (ring E)[i]? = some e) : rg E i = e := by
  unfold rg
  rw [List.getD, h]; rfl
theorem ring_len : (ring E).length = E.length + 1 := rfl
theorem numE_len : (numE E).length = E.length + 1 := by simp [numE, ring]
theorem numE_get {i n : Nat} (h : (numE E)[i]? = some n) : i < (ring E).length ∧ n = (rg E i).n := by
  unfold numE at h
  rw [List.getElem?_map] at h
  cases e : (ring E)[i]? with
  | none => rw [e] at h; cases h
  | some x =>
    rw [e] at h
    cases h
    exact ⟨(List.getElem?_eq_some_iff.1 e).1, by rw [rg_of e]⟩
theorem rg_succ {r : Nat} (k : Lies E r) {i : Nat} (h : i + 1 < (ring E).length) : (rg E i).stop ≤ (rg E (i + 1)).p := k.1 i _ _ (rg_get (by omega)) (rg_get h)
theorem enE_le {r : Nat} (k : Lies E r) {i : Nat} (h : i < (ring E).length) : enE E i ≤ (rg E i).p := by
  induction i with
  | zero => exact Nat.zero_le _
  | succ i ih =>
    have h1 := ih (by omega)
    have h2 := rg_succ k h
    unfold Ex.stop at h2
    show enE E i + up8N (rg E i).l ≤ _
    omega
theorem rg_mem {i : Nat} (h : i < (ring E).length) : rg E i ∈ ring E := List.mem_of_getElem? (rg_get h)
theorem rg_memE {i : Nat} (h : i + 1 < (ring E).length) : rg E (i + 1) ∈ E := by
  have := rg_get h
  unfold ring at this
  rw [List.getElem?_cons_succ] at this
  exact List.mem_of_getElem? this
end
end Go.Proofs.YtgkakflnmpoadaaGreatDoor.W
/- Package store: moved together, extents have their bytes still. -/
namespace Go.Proofs.YtgkakflnmpoadaaGreatDoor.W
set_option linter.unusedVariables false
theorem seg_ext {r r' : List Nat} {a b n : Nat} (h : ∀ i, i < n → r[a + i]? = r'[b + i]?) : seg r a n = seg r' b n := by
  apply List.ext_getElem?
  intro i
  by_cases hi : i < n
  · rw [seg_get _ _ _ _ hi, seg_get _ _ _ _ hi]; exact h i hi
  · rw [List.getElem?_eq_none (by simp [seg]; omega), List.getElem?_eq_none (by simp [seg]; omega)]
theorem seg_setL_in (row : List Nat) (o : Nat) (vs : List Nat) (h : o + vs.length ≤ row.length) : seg (setL row o vs) o vs.length = vs := by
  apply List.ext_getElem?
  intro i
  by_cases hi : i < vs.length
  · rw [seg_get _ _ _ _ hi, setL_get _ _ _ _ h, if_pos (by omega), Nat.add_sub_cancel_left]
  · rw [List.getElem?_eq_none (by simp [seg]; omega), List.getElem?_eq_none (by omega)]
theorem seg_setL_out (row : List Nat) (o : Nat) (vs : List Nat) (a n : Nat) (h : o + vs.length ≤ row.length) (ho : a + n ≤ o ∨ o + vs.length ≤ a) : seg (setL row o vs) a n = seg row a n :=
  seg_ext (fun i hi => by rw [setL_get _ _ _ _ h, if_neg (by omega)])
theorem seg_take (row : List Nat) (m a n : Nat) (h : a + n ≤ m) : seg (row.take m) a n = seg row a n :=
  seg_ext (fun i hi => by rw [List.getElem?_take, if_pos (by omega)])
section
variable {s : Sto} {E : List Ex}
theorem rg_lt {r : Nat} (k : Lies E r) {i j : Nat} (hij : i < j) (hj : j < (ring E).length) : (rg E i).stop ≤ (rg E j).p := by
  induction j with
  | zero => omega
  | succ j ih =>
    have h1 := rg_succ k hj
    by_cases e : i = j
    · rw [e]; exact h1
    · have h2 := ih (by omega) (by omega)
      unfold Ex.stop at *
      omega
theorem enE_mono {i j : Nat} (h : i ≤ j) : enE E i ≤ enE E j := by
  induction j with
  | zero => have : i = 0 := by omega
            rw [this]; exact Nat.le_refl _
  | succ j ih =>
    by_cases e : i = j + 1
    · rw [e]; exact Nat.le_refl _
    · have := ih (by omega)
      show _ ≤ enE E j + up8N (rg E j).l
      omega
theorem up8N_ge (l : Nat) : l ≤ up8N l := by unfold up8N; omega
theorem up8N_mod (l : Nat) : up8N l % 8 = 0 := by unfold up8N; omega
theorem enE_mod (i : Nat) : enE E i % 8 = 0 := by
  induction i with
  | zero => rfl
  | succ i ih =>
    show (enE E i + up8N (rg E i).l) % 8 = 0
    have := up8N_mod (rg E i).l
    omega
abbrev pkE (s : Sto) (E : List Ex) : Nat → Sto := packN s (numE E) (fun i => blkOf E i (rg E i)) (fun i => (rg E i).p) (fun i => (rg E i).l) (enE E)
/-- the extents, moved together -/
def packE (E : List Ex) : List Ex := (List.range E.length).map (fun i => ⟨(rg E (i + 1)).n, enE E (i + 1), (rg E (i + 1)).l⟩)
theorem packE_len : (packE E).length = E.length := by simp [packE]
theorem packE_get {i : Nat} (h : i < (ring E).length) : (ring (packE E))[i]? = some ⟨(rg E i).n, enE E i, (rg E i).l⟩ := by
  cases i with
  | zero => rfl
  | succ i =>
    unfold ring packE
    rw [List.getElem?_cons_succ, List.getElem?_map, List.getElem?_range (by rw [ring_len] at h; omega)]
    rfl
theorem packE_num : numE (packE E) = numE E := by
  apply List.ext_getElem?
  intro i
  unfold numE
  rw [List.getElem?_map, List.getElem?_map]
  by_cases h : i < (ring E).length
  · rw [packE_get h, rg_get h]; rfl
  · rw [List.getElem?_eq_none (by rw [ring_len, packE_len]; rw [ring_len] at h; omega), List.getElem?_eq_none (by omega)]
theorem packE_rg {i : Nat} (h : i < (ring E).length) : rg (packE E) i = ⟨(rg E i).n, enE E i, (rg E i).l⟩ := rg_of (packE_get h)
end
end Go.Proofs.YtgkakflnmpoadaaGreatDoor.W
/- Package store: the ring alone, and that moving together keeps it. -/
namespace Go.Proofs.YtgkakflnmpoadaaGreatDoor.W
set_option linter.unusedVariables false
/-- what Good says of the ring -/
structure Ring (s : Sto) (E : List Ex) : Prop where
  nodup : ((ring E).map Ex.n).Nodup
  lies : Lies E s.row.length
  get : ∀ i e, (ring E)[i]? = some e → s.get e.n = some (blkOf E i e)
  byte : ∀ x ∈ s.row, x < 256
  hand : ∃ e ∈ ring E, s.hand = (e.n : Nat)
  row8 : s.row.length % 8 = 0
/-- what Good says of the rest, R being whether an Id is in the ring -/
structure Tab (s : Sto) (E : List Ex) : Prop where
  zero : ∀ id b, s.blks[id]? = some b → id + 1 ∉ (ring E).map Ex.n → b = noBlk ∨ b = ⟨true, 0, 0, 0, 0⟩
  heap : IsHeap s.free s.free.length
  nodupF : s.free.Nodup
  free : ∀ x : Int, x ∈ s.free ↔ ∃ id : Nat, x = id ∧ s.blks[id]? = some noBlk
  used : s.used = ((E.map (fun e => up8N e.l)).foldr (· + ·) 0 : Nat)
theorem Good.rng {s : Sto} {E : List Ex} (g : Good s E) : Ring s E := ⟨g.nodup, g.lies, g.get, g.byte, g.hand, g.row8⟩
theorem Good.tab {s : Sto} {E : List Ex} (g : Good s E) : Tab s E := ⟨g.zero, g.heap, g.nodupF, g.free, g.used⟩
theorem Ring.good {s : Sto} {E : List Ex} (g : Ring s E) (t : Tab s E) : Good s E := ⟨g.nodup, g.lies, g.get, g.byte, g.hand, t.zero, t.heap, t.nodupF, t.free, t.used, g.row8⟩
section
variable {s : Sto} {E : List Ex}
theorem ring_pk (g : Ring s E) : Pk s (numE E) (fun i => blkOf E i (rg E i)) (fun i => (rg E i).p) (fun i => (rg E i).l) (fun i => up8N (rg E i).l) (enE E) := by
  have hl : (numE E).length = (ring E).length := by rw [numE_len, ring_len]
  refine ⟨by rw [numE_len]; omega, rfl, g.nodup, ?_, ?_, fun i hi => rfl, fun i hi => rfl, fun i hi => up8N_eq _, rfl, fun i hi => rfl, fun i hi => enE_le g.lies (by omega), fun i hi => ?_, ⟨rfl, rfl⟩, fun i h0 hi => ?_⟩
  · intro i n h
    obtain ⟨h1, rfl⟩ := numE_get h
    exact g.get i _ (rg_get h1)
  · intro i hi
    show (((ring E)[i + 1]?.map Ex.n).getD 0 : Nat) = (((numE E)[i + 1]?.getD 0 : Nat) : Int)
    rw [numE, List.getElem?_map]
  · exact g.lies.2.2 _ (rg_mem (by omega))
  · obtain ⟨m, rfl⟩ : ∃ m, i = m + 1 := ⟨i - 1, by omega⟩
    exact (g.lies.2.1 _ (rg_memE (by omega))).2.1
theorem ring_bytes (g : Ring s E) (i : Nat) (hi : i ≤ (ring E).length) : (∀ j, i ≤ j → j < (ring E).length → seg (pkE s E i).row (rg E j).p (rg E j).l = seg s.row (rg E j).p (rg E j).l) ∧ (∀ j, j < i → seg (pkE s E i).row (enE E j) (rg E j).l = seg s.row (rg E j).p (rg E j).l) := by
  induction i with
  | zero => exact ⟨fun _ _ _ => rfl, fun j h => absurd h (by omega)⟩
  | succ i ih =>
    obtain ⟨h1, h2⟩ := ih (by omega)
    have hrl : (pkE s E i).row.length = s.row.length := packN_row i
    have hst := g.lies.2.2 _ (rg_mem (E := E) (i := i) (by omega))
    have hen := enE_le g.lies (i := i) (by omega)
    have hup := up8N_ge (rg E i).l
    unfold Ex.stop at hst
    have hlen : (seg (pkE s E i).row (rg E i).p (rg E i).l).length = (rg E i).l := seg_len _ _ _ (by omega)
    have hrow : (pkE s E (i + 1)).row = setL (pkE s E i).row (enE E i) (seg (pkE s E i).row (rg E i).p (rg E i).l) := rfl
    refine ⟨fun j hj hjl => ?_, fun j hj => ?_⟩
    · have hlt := rg_lt g.lies (i := i) (j := j) (by omega) hjl
      unfold Ex.stop at hlt
      rw [hrow, seg_setL_out _ _ _ _ _ (by omega) (.inr (by omega))]
      exact h1 j (by omega) hjl
    · rw [hrow]
      by_cases e : j = i
      · subst e
        have := seg_setL_in (pkE s E j).row (enE E j) (seg (pkE s E j).row (rg E j).p (rg E j).l) (by omega)
        rw [hlen] at this
        rw [this]
        exact h1 j (Nat.le_refl _) (by omega)
      · have hm := enE_mono (E := E) (i := j + 1) (j := i) (by omega)
        have hu := up8N_ge (rg E j).l
        have he : enE E (j + 1) = enE E j + up8N (rg E j).l := rfl
        rw [seg_setL_out _ _ _ _ _ (by omega) (.inl (by omega))]
        exact h2 j (by omega)
/-- the store, its extents moved together -/
abbrev pkd (s : Sto) (E : List Ex) : Sto := packedSto s (numE E) (fun i => blkOf E i (rg E i)) (fun i => (rg E i).p) (fun i => (rg E i).l) (enE E)
theorem numlen : (numE E).length = (ring E).length := by rw [numE_len, ring_len]
theorem pkd_row (g : Ring s E) : (pkd s E).row.length = enE E (ring E).length := by
  have h1 := (ring_pk g).end_le
  have h2 : (pkE s E (numE E).length).row.length = s.row.length := packN_row _
  show ((pkE s E (numE E).length).row.take (enE E (numE E).length)).length = _
  rw [List.length_take, h2, ← numlen]
  omega
theorem packE_map (i : Nat) : (ring (packE E))[i]?.map Ex.n = (ring E)[i]?.map Ex.n := by
  have := congrArg (fun l => l[i]?) (packE_num (E := E))
  unfold numE at this
  simpa [List.getElem?_map] using this
theorem blkOf_pack (i : Nat) : blkOf (packE E) i ⟨(rg E i).n, enE E i, (rg E i).l⟩ = { blkOf E i (rg E i) with pos := (enE E i : Nat) } := by
  unfold blkOf
  rw [packE_map, packE_map, packE_len]
theorem enE_le_all {i : Nat} (h : i < (ring E).length) : enE E i + up8N (rg E i).l ≤ enE E (ring E).length := enE_mono (E := E) (i := i + 1) h
theorem packed_lies {r : Nat} (k : Lies E r) : Lies (packE E) (enE E (ring E).length) := by
  have hl : (ring (packE E)).length = (ring E).length := by rw [ring_len, ring_len, packE_len]
  have key : ∀ e ∈ ring (packE E), ∃ i, i < (ring E).length ∧ e = ⟨(rg E i).n, enE E i, (rg E i).l⟩ := by
    intro e he
    obtain ⟨i, hi, rfl⟩ := List.mem_iff_getElem.1 he
    have h1 := packE_get (E := E) (i := i) (by omega)
    rw [List.getElem?_eq_getElem hi] at h1
    exact ⟨i, by omega, Option.some.inj h1⟩
  refine ⟨?_, ?_, ?_⟩
  · intro i e f he hf
    have h2 := (List.getElem?_eq_some_iff.1 hf).1
    rw [packE_get (by omega)] at he
    rw [packE_get (by omega)] at hf
    cases he; cases hf
    exact Nat.le_refl _
  · intro e he
    obtain ⟨i, hi, rfl⟩ := List.mem_iff_getElem.1 he
    have h1 := packE_get (E := E) (i := i + 1) (by rw [packE_len] at hi; rw [ring_len]; omega)
    unfold ring at h1
    rw [List.getElem?_cons_succ, List.getElem?_eq_getElem hi] at h1
    rw [Option.some.inj h1]
    have h2 := k.2.1 _ (rg_memE (E := E) (i := i) (by rw [packE_len] at hi; rw [ring_len]; omega))
    exact ⟨enE_mod _, h2.2⟩
  · intro e he
    obtain ⟨i, hi, rfl⟩ := key e he
    exact enE_le_all hi
theorem ring_packed (g : Ring s E) : Ring (pkd s E) (packE E) := by
  have k := ring_pk g
  have hn := numlen (E := E)
  refine ⟨?_, ?_, ?_, ?_, ?_, ?_⟩
  · show (numE (packE E)).Nodup
    rw [packE_num]; exact g.nodup
  · rw [pkd_row g]; exact packed_lies g.lies
  · intro i e he
    have hi := (List.getElem?_eq_some_iff.1 he).1
    rw [ring_len, packE_len] at hi
    have hi' : i < (ring E).length := by rw [ring_len]; omega
    rw [packE_get hi'] at he
    cases he
    rw [blkOf_pack]
    exact packN_earlier k (numE E).length i _ (by omega) (Nat.le_refl _) (by unfold numE; rw [List.getElem?_map, rg_get hi']; rfl)
  · intro x hx
    exact packN_byte _ g.byte x (List.mem_of_mem_take hx)
  · have hlast : (numE E)[(numE E).length - 1]? = some (rg E ((ring E).length - 1)).n := by
      unfold numE; rw [List.getElem?_map, List.length_map, rg_get (by rw [ring_len]; omega)]; rfl
    refine ⟨⟨(rg E ((ring E).length - 1)).n, enE E ((ring E).length - 1), (rg E ((ring E).length - 1)).l⟩, List.mem_of_getElem? (packE_get (by rw [ring_len]; omega)), ?_⟩
    exact packN_hand hlast
  · rw [pkd_row g]; exact enE_mod _
theorem packed_used : ((packE E).map (fun e => up8N e.l)).foldr (· + ·) 0 = (E.map (fun e => up8N e.l)).foldr (· + ·) 0 := by
  congr 1
  apply List.ext_getElem?
  intro i
  rw [List.getElem?_map, List.getElem?_map]
  by_cases h : i < E.length
  · have h1 := packE_get (E := E) (i := i + 1) (by rw [ring_len]; omega)
    have h2 := rg_get (E := E) (i := i + 1) (by rw [ring_len]; omega)
    unfold ring at h1 h2
    rw [List.getElem?_cons_succ] at h1 h2
    rw [h1, h2]; rfl
  · rw [List.getElem?_eq_none (by rw [packE_len]; omega), List.getElem?_eq_none (by omega)]
theorem get_blks (s : Sto) (id : Nat) : s.get (id + 1) = s.blks[id]? := by unfold Sto.get; rw [if_neg (by omega)]; rfl
theorem ring_live (g : Ring s E) (id : Nat) (h : id + 1 ∈ numE E) : ∃ b, s.blks[id]? = some b ∧ b.live = true := by
  obtain ⟨j, hj, e⟩ := List.mem_iff_getElem.1 h
  have h1 : (numE E)[j]? = some (id + 1) := by rw [List.getElem?_eq_getElem hj, e]
  obtain ⟨h2, h3⟩ := numE_get h1
  have h4 := g.get j _ (rg_get h2)
  rw [← h3, get_blks] at h4
  refine ⟨_, h4, ?_⟩
  show decide (0 < j) = true
  have : j ≠ 0 := by rintro rfl; exact absurd h3 (by show ¬ id + 1 = 0; omega)
  simp; omega
end
end Go.Proofs.YtgkakflnmpoadaaGreatDoor.W
/- Package store: an extent put into the ring. -/
namespace Go.Proofs.YtgkakflnmpoadaaGreatDoor.W
set_option linter.unusedVariables false
/-- an extent put in behind the j-th of the ring -/
def insE (E : List Ex) (j : Nat) (e : Ex) : List Ex := E.take j ++ e :: E.drop j
section
variable {s : Sto} {E : List Ex}
theorem insE_len {j : Nat} (e : Ex) (h : j ≤ E.length) : (insE E j e).length = E.length + 1 := by simp [insE]; omega
theorem insE_get {j : Nat} (e : Ex) (h : j ≤ E.length) (i : Nat) : (ring (insE E j e))[i]? = if i ≤ j then (ring E)[i]? else if i = j + 1 then some e else (ring E)[i - 1]? := by
  cases i with
  | zero => simp [ring]
  | succ i =>
    unfold ring insE
    rw [List.getElem?_cons_succ, List.getElem?_append]
    have hl : (E.take j).length = j := by simp; omega
    rw [hl]
    by_cases h1 : i < j
    · rw [if_pos h1, if_pos (by omega), List.getElem?_cons_succ, List.getElem?_take, if_pos h1]
    · rw [if_neg h1]
      by_cases h2 : i = j
      · subst h2; rw [if_neg (by omega), if_pos rfl]; simp
      · rw [if_neg (by omega), if_neg (by omega), Nat.add_sub_cancel]
        obtain ⟨m, rfl⟩ : ∃ m, i = j + 1 + m := ⟨i - j - 1, by omega⟩
        rw [show j + 1 + m - j = m + 1 by omega, List.getElem?_cons_succ, List.getElem?_drop, show j + 1 + m = (j + m) + 1 by omega, List.getElem?_cons_succ]
theorem linked_get {n bk nx : Nat} {bn bb bx : Blk} (hn : s.get n = some bn) (hb : s.get bk = some bb) (hx : s.get nx = some bx) (h1 : bk ≠ n) (h2 : nx ≠ n) (m : Nat) :
    (s.linked n bk nx).get m = if m = n then some { bn with back := bk, next := nx } else if m = nx then some { (if m = bk then { bb with next := (n : Int) } else bx) with back := n } else if m = bk then some { bb with next := n } else s.get m := by
  have g1 : ∀ m, m ≠ n → (s.linked1 n bk nx).get m = s.get m := fun m hm => get_set_ne _ hm
  have g1n : (s.linked1 n bk nx).get n = some { bn with back := bk, next := nx } := by
    unfold Sto.linked1; rw [getD_of hn]; exact get_set_same hn _
  have e1 : (s.linked1 n bk nx).getD bk = bb := getD_of (by rw [g1 _ h1]; exact hb)
  have g2 : (s.linked2 n bk nx).get bk = some { bb with next := (n : Int) } := by
    unfold Sto.linked2; rw [e1]; exact get_set_same (b := bb) (by rw [g1 _ h1]; exact hb) _
  have g2o : ∀ m, m ≠ bk → (s.linked2 n bk nx).get m = (s.linked1 n bk nx).get m := fun m hm => get_set_ne _ hm
  have g2x : (s.linked2 n bk nx).get nx = some (if nx = bk then { bb with next := (n : Int) } else bx) := by
    by_cases e : nx = bk
    · rw [if_pos e]; subst e; exact g2
    · rw [if_neg e, g2o _ e, g1 _ h2]; exact hx
  have e2 : (s.linked2 n bk nx).getD nx = (if nx = bk then { bb with next := (n : Int) } else bx) := getD_of g2x
  by_cases c1 : m = n
  · rw [if_pos c1]; subst c1
    show ((s.linked2 m bk nx).set nx _).get m = _
    rw [get_set_ne _ h2.symm, g2o _ h1.symm]; exact g1n
  · rw [if_neg c1]
    by_cases c2 : m = nx
    · rw [if_pos c2]; subst c2
      show ((s.linked2 n bk m).set m _).get m = _
      rw [e2]; exact get_set_same g2x _
    · rw [if_neg c2]
      show ((s.linked2 n bk nx).set nx _).get m = _
      rw [get_set_ne _ c2]
      by_cases c3 : m = bk
      · rw [if_pos c3]; subst c3; exact g2
      · rw [if_neg c3, g2o _ c3]; exact g1 _ c1
theorem linked_row (n bk nx : Nat) : (s.linked n bk nx).row = s.row := by unfold Sto.linked Sto.linked2 Sto.linked1; rw [set_row, set_row, set_row]
theorem linked_free (n bk nx : Nat) : (s.linked n bk nx).free = s.free := by unfold Sto.linked Sto.linked2 Sto.linked1; rw [set_free, set_free, set_free]
theorem linked_used (n bk nx : Nat) : (s.linked n bk nx).used = s.used := by unfold Sto.linked Sto.linked2 Sto.linked1; rw [set_used, set_used, set_used]
theorem linked_len (n bk nx : Nat) : (s.linked n bk nx).blks.length = s.blks.length := by unfold Sto.linked Sto.linked2 Sto.linked1; rw [set_len, set_len, set_len]
theorem laid_row (n bk nx p u : Nat) : (s.laid n bk nx p u).row = layRow s.row p u := linked_row _ _ _
theorem laid_free (n bk nx p u : Nat) : (s.laid n bk nx p u).free = s.free := by
  show (Sto.linked _ n bk nx).free = _
  rw [linked_free]; exact set_free _ _ _
theorem laid_used (n bk nx p u : Nat) : (s.laid n bk nx p u).used = s.used := by
  show (Sto.linked _ n bk nx).used = _
  rw [linked_used]; exact set_used _ _ _
theorem laid_len (n bk nx p u : Nat) : (s.laid n bk nx p u).blks.length = s.blks.length := by
  show (Sto.linked _ n bk nx).blks.length = _
  rw [linked_len]; exact set_len _ _ _
theorem laid_get {n bk nx : Nat} {bn bb bx : Blk} (p u : Nat) (hn : s.get n = some bn) (hb : s.get bk = some bb) (hx : s.get nx = some bx) (h1 : bk ≠ n) (h2 : nx ≠ n) (m : Nat) :
    (s.laid n bk nx p u).get m = if m = n then some { bn with pos := p, back := bk, next := nx } else if m = nx then some { (if m = bk then { bb with next := (n : Int) } else bx) with back := n } else if m = bk then some { bb with next := n } else s.get m := by
  have k1 : ({ s.set n { s.getD n with pos := (p : Int) } with row := layRow s.row p u } : Sto).get n = some { bn with pos := (p : Int) } := by
    rw [getD_of hn]; exact get_set_same hn _
  have k2 : ∀ m, m ≠ n → ({ s.set n { s.getD n with pos := (p : Int) } with row := layRow s.row p u } : Sto).get m = s.get m := fun m hm => get_set_ne _ hm
  have := linked_get k1 (by rw [k2 _ h1]; exact hb) (by rw [k2 _ h2]; exact hx) h1 h2 m
  show (Sto.linked _ n bk nx).get m = _
  rw [this]
  by_cases c1 : m = n
  · rw [if_pos c1, if_pos c1]
  · rw [if_neg c1, if_neg c1, k2 _ c1]
theorem layRow_len (row : List Nat) (p u : Nat) : (layRow row p u).length = max row.length (p + u) := by
  unfold layRow longer; rw [setL_len, List.length_append, List.length_replicate]; omega
theorem longer_get (row : List Nat) (e i : Nat) (h : i < row.length) : (longer row e)[i]? = row[i]? := by
  unfold longer; rw [List.getElem?_append_left h]
theorem layRow_out (row : List Nat) (p u a n : Nat) (ha : a + n ≤ row.length) (ho : a + n ≤ p ∨ p + u ≤ a) : seg (layRow row p u) a n = seg row a n := by
  unfold layRow
  rw [seg_setL_out _ _ _ _ _ (by unfold longer; simp; omega) (by simpa using ho)]
  exact seg_ext (fun i hi => longer_get _ _ _ (by omega))
theorem layRow_in (row : List Nat) (p u n : Nat) (hn : n ≤ u) : seg (layRow row p u) p n = List.replicate n 0 := by
  apply List.ext_getElem?
  intro i
  by_cases hi : i < n
  · rw [seg_get _ _ _ _ hi]
    unfold layRow
    rw [setL_get _ _ _ _ (by unfold longer; simp; omega), if_pos (by simp; omega), List.getElem?_replicate, if_pos (by omega), List.getElem?_replicate, if_pos hi]
  · rw [List.getElem?_eq_none (by simp [seg]; omega), List.getElem?_eq_none (by simp; omega)]
theorem layRow_byte (row : List Nat) (p u : Nat) (h : ∀ x ∈ row, x < 256) : ∀ x ∈ layRow row p u, x < 256 := by
  intro x hx
  rcases mem_setL _ _ _ _ hx with g | g
  · unfold longer at g
    rcases List.mem_append.1 g with g | g
    · exact h x g
    · have := (List.mem_replicate.1 g).2; omega
  · have := (List.mem_replicate.1 g).2; omega
theorem rg_inj (hd : ((ring E).map Ex.n).Nodup) {i k : Nat} (hi : i < (ring E).length) (hk : k < (ring E).length) (h : (rg E i).n = (rg E k).n) : i = k := by
  have h1 : ((ring E).map Ex.n)[i]'(by simpa using hi) = (rg E i).n := by
    rw [List.getElem_map]
    have := rg_get hi
    rw [List.getElem?_eq_getElem hi] at this
    rw [Option.some.inj this]
  have h2 : ((ring E).map Ex.n)[k]'(by simpa using hk) = (rg E k).n := by
    rw [List.getElem_map]
    have := rg_get hk
    rw [List.getElem?_eq_getElem hk] at this
    rw [Option.some.inj this]
  have hl : ((ring E).map Ex.n).length = (ring E).length := List.length_map ..
  rcases Nat.lt_trichotomy i k with c | c | c
  · exact absurd (by rw [h1, h2, h]) (List.pairwise_iff_getElem.1 hd i k (by omega) (by omega) c)
  · exact c
  · exact absurd (by rw [h1, h2, h]) (List.pairwise_iff_getElem.1 hd k i (by omega) (by omega) c)
/-- the number at a place of the ring -/
def nm (E : List Ex) (i : Nat) : Nat := ((ring E)[i]?.map Ex.n).getD 0
theorem nm_rg {i : Nat} (h : i < (ring E).length) : nm E i = (rg E i).n := by unfold nm; rw [rg_get h]; rfl
theorem nm_out {i : Nat} (h : (ring E).length ≤ i) : nm E i = 0 := by unfold nm; rw [List.getElem?_eq_none h]; rfl
theorem nm_ins {j : Nat} (e : Ex) (h : j ≤ E.length) (i : Nat) : nm (insE E j e) i = if i ≤ j then nm E i else if i = j + 1 then e.n else nm E (i - 1) := by
  unfold nm
  rw [insE_get e h]
  split
  · rfl
  · split <;> rfl
theorem blkOf_nm (i : Nat) (e : Ex) : blkOf E i e = ⟨decide (0 < i), e.p, e.l, (nm E (if i = 0 then E.length else i - 1) : Nat), (nm E (i + 1) : Nat)⟩ := rfl
theorem insE_num {j : Nat} (e : Ex) : ((ring (insE E j e)).map Ex.n).Perm (e.n :: (ring E).map Ex.n) := by
  unfold ring insE
  simp only [List.map_cons, List.map_append]
  refine List.Perm.trans (List.Perm.cons _ List.perm_middle) ?_
  refine List.Perm.trans (List.Perm.swap _ _ _) ?_
  rw [← List.map_append, List.take_append_drop]
theorem lies_ins {r r' : Nat} (k : Lies E r) {j : Nat} (hj : j ≤ E.length) (e : Ex) (hr : r ≤ r') (he8 : e.p % 8 = 0) (hel : 0 < e.l) (hen : e.n ≠ 0) (hes : e.stop ≤ r') (h1 : (rg E j).stop ≤ e.p) (h2 : j < E.length → e.stop ≤ (rg E (j + 1)).p) : Lies (insE E j e) r' := by
  refine ⟨?_, ?_, ?_⟩
  · intro i a b ha hb
    rw [insE_get e hj] at ha hb
    by_cases c1 : i + 1 ≤ j
    · rw [if_pos (by omega)] at ha
      rw [if_pos c1] at hb
      exact k.1 i a b ha hb
    · rw [if_neg c1] at hb
      by_cases c2 : i = j
      · subst c2
        rw [if_pos (by omega)] at ha
        rw [if_pos rfl] at hb
        cases hb
        rw [← rg_of ha]; exact h1
      · rw [if_neg (by omega)] at hb
        rw [if_neg (by omega)] at ha
        rw [Nat.add_sub_cancel] at hb
        by_cases c3 : i = j + 1
        · subst c3
          rw [if_pos rfl] at ha
          cases ha
          have hlt := (List.getElem?_eq_some_iff.1 hb).1
          rw [← rg_of hb]; exact h2 (by rw [ring_len] at hlt; omega)
        · rw [if_neg c3] at ha
          obtain ⟨m, rfl⟩ : ∃ m, i = m + 1 := ⟨i - 1, by omega⟩
          exact k.1 m a b ha hb
  · intro a ha
    unfold insE at ha
    rcases List.mem_append.1 ha with ha | ha
    · exact k.2.1 a (List.mem_of_mem_take ha)
    · rcases List.mem_cons.1 ha with rfl | ha
      · exact ⟨he8, hel, hen⟩
      · exact k.2.1 a (List.mem_of_mem_drop ha)
  · intro a ha
    rcases List.mem_cons.1 ha with rfl | ha
    · exact Nat.le_trans (k.2.2 _ (List.mem_cons_self ..)) hr
    · unfold insE at ha
      rcases List.mem_append.1 ha with ha | ha
      · exact Nat.le_trans (k.2.2 a (List.mem_cons_of_mem _ (List.mem_of_mem_take ha))) hr
      · rcases List.mem_cons.1 ha with rfl | ha
        · exact hes
        · exact Nat.le_trans (k.2.2 a (List.mem_cons_of_mem _ (List.mem_of_mem_drop ha))) hr
end
end Go.Proofs.YtgkakflnmpoadaaGreatDoor.W
/- Package store: the ring behind lay; what an extent holds. -/
namespace Go.Proofs.YtgkakflnmpoadaaGreatDoor.W
set_option linter.unusedVariables false
section
variable {s : Sto} {E : List Ex}
theorem stop_mod {r : Nat} (k : Lies E r) {j : Nat} (hj : j < (ring E).length) : (rg E j).stop % 8 = 0 := by
  cases j with
  | zero => show (0 + up8N 0) % 8 = 0; rw [Nat.zero_add]; exact up8N_mod 0
  | succ j =>
    have h1 := (k.2.1 _ (rg_memE hj)).1
    have h2 := up8N_mod (rg E (j + 1)).l
    unfold Ex.stop
    omega
theorem numE_mem {i : Nat} (hi : i < (ring E).length) : (rg E i).n ∈ numE E := List.mem_map_of_mem (rg_mem hi)
theorem ring_laid (g : Ring s E) {j : Nat} (hj : j ≤ E.length) {n l : Nat} (hn : n ∉ numE E) (hl : 0 < l) (hg : s.get n = some ⟨true, 0, l, 0, 0⟩) (hroom : j < E.length → (rg E j).stop + up8N l ≤ (rg E (j + 1)).p) :
    Ring (s.laid n (nm E j) (nm E (j + 1)) (rg E j).stop (up8N l)) (insE E j ⟨n, (rg E j).stop, l⟩) := by
  have hjl : j < (ring E).length := by rw [ring_len]; omega
  have hn0 : n ≠ 0 := by rintro rfl; exact hn (by show 0 ∈ (ring E).map Ex.n; exact List.mem_cons_self ..)
  have bkj : nm E j = (rg E j).n := nm_rg hjl
  have hbk : nm E j ≠ n := by rw [bkj]; rintro e; exact hn (e ▸ numE_mem hjl)
  obtain ⟨jn, hjn⟩ : ∃ jn, jn = if j = E.length then 0 else j + 1 := ⟨_, rfl⟩
  have hjnl : jn < (ring E).length := by rw [hjn, ring_len]; split <;> omega
  have nxj : nm E (j + 1) = (rg E jn).n := by
    by_cases c : j = E.length
    · rw [nm_out (by rw [ring_len]; omega), hjn, if_pos c]; rfl
    · rw [hjn, if_neg c]; exact nm_rg (by rw [ring_len]; omega)
  have hnx : nm E (j + 1) ≠ n := by rw [nxj]; rintro e; exact hn (e ▸ numE_mem hjnl)
  have gb : s.get (nm E j) = some (blkOf E j (rg E j)) := by rw [bkj]; exact g.get j _ (rg_get hjl)
  have gx : s.get (nm E (j + 1)) = some (blkOf E jn (rg E jn)) := by rw [nxj]; exact g.get jn _ (rg_get hjnl)
  have key := laid_get (rg E j).stop (up8N l) hg gb gx hbk hnx
  have rl := layRow_len s.row (rg E j).stop (up8N l)
  have inj : ∀ {a b : Nat}, a < (ring E).length → b < (ring E).length → (rg E a).n = (rg E b).n → a = b := fun ha hb h => rg_inj g.nodup ha hb h
  have old : ∀ k, k < (ring E).length → (s.laid n (nm E j) (nm E (j + 1)) (rg E j).stop (up8N l)).get (rg E k).n = some ⟨decide (0 < k), (rg E k).p, (rg E k).l, if k = jn then (n : Int) else (nm E (if k = 0 then E.length else k - 1) : Nat), if k = j then (n : Int) else (nm E (k + 1) : Nat)⟩ := by
    intro k hk
    have ne : (rg E k).n ≠ n := fun e => hn (e ▸ numE_mem hk)
    rw [key, if_neg ne, nxj, bkj]
    have e1 : ((rg E k).n = (rg E jn).n) ↔ k = jn := ⟨inj hk hjnl, fun e => by rw [e]⟩
    have e2 : ((rg E k).n = (rg E j).n) ↔ k = j := ⟨inj hk hjl, fun e => by rw [e]⟩
    have e3 : s.get (rg E k).n = some (blkOf E k (rg E k)) := g.get k _ (rg_get hk)
    simp only [e1, e2, e3, blkOf_nm]
    by_cases c1 : k = jn
    · simp only [if_pos c1]
      by_cases c2 : k = j
      · simp only [if_pos c2]; rw [← c2]
      · simp only [if_neg c2]; rw [← c1]
    · simp only [if_neg c1]
      by_cases c2 : k = j
      · simp only [if_pos c2]; rw [← c2]
      · simp only [if_neg c2]
  have hnE : ∀ i, nm (insE E j ⟨n, (rg E j).stop, l⟩) i = if i ≤ j then nm E i else if i = j + 1 then n else nm E (i - 1) := nm_ins _ hj
  refine ⟨?_, ?_, ?_, ?_, ?_, ?_⟩
  · exact (insE_num _).nodup_iff.2 (List.nodup_cons.2 ⟨hn, g.nodup⟩)
  · rw [laid_row, rl]
    refine lies_ins g.lies hj _ (by omega) (stop_mod g.lies hjl) hl hn0 ?_ (Nat.le_refl _) hroom
    show (rg E j).stop + up8N l ≤ _
    omega
  · intro i e he
    rw [insE_get _ hj] at he
    rw [blkOf_nm, hnE, hnE, insE_len _ hj]
    by_cases c1 : i ≤ j
    · rw [if_pos c1] at he
      have hil := (List.getElem?_eq_some_iff.1 he).1
      rw [← rg_of he, old i hil]
      congr 2
      · by_cases c2 : i = jn
        · have : i = 0 ∧ j = E.length := by
            rw [hjn] at c2; split at c2
            · exact ⟨c2, by assumption⟩
            · omega
          rw [if_pos c2, this.1, if_pos rfl, if_neg (by omega), if_pos (by omega)]
        · rw [if_neg c2]
          by_cases c3 : i = 0
          · have : j ≠ E.length := by rintro rfl; exact c2 (by rw [c3, hjn, if_pos rfl])
            rw [c3, if_pos rfl, if_pos rfl, if_neg (by omega), if_neg (by omega)]; rfl
          · rw [if_neg c3, if_neg c3, if_pos (by omega)]
      · by_cases c2 : i = j
        · rw [if_pos c2, if_neg (by omega), if_pos (by omega)]
        · rw [if_neg c2, if_pos (by omega)]
    · rw [if_neg c1] at he
      by_cases c2 : i = j + 1
      · rw [if_pos c2] at he
        cases he
        show (s.laid n _ _ _ _).get n = _
        rw [key, if_pos rfl, c2, if_neg (show ¬ j + 1 = 0 by omega), Nat.add_sub_cancel, if_pos (Nat.le_refl j), if_neg (show ¬ j + 1 + 1 ≤ j by omega), if_neg (show ¬ j + 1 + 1 = j + 1 by omega), Nat.add_sub_cancel]
        simp
      · rw [if_neg c2] at he
        have hil := (List.getElem?_eq_some_iff.1 he).1
        have hil' := hil
        rw [ring_len] at hil'
        rw [← rg_of he, old (i - 1) hil]
        have d : decide (0 < i - 1) = decide (0 < i) := by
          have h1 : 0 < i - 1 := by omega
          have h2 : 0 < i := by omega
          rw [decide_eq_true h1, decide_eq_true h2]
        rw [d]
        congr 2
        · rw [if_neg (show ¬ i = 0 by omega), if_neg (show ¬ i - 1 ≤ j by omega)]
          by_cases c3 : i - 1 = jn
          · have : i - 1 = j + 1 := by
              rw [hjn] at c3; split at c3 <;> omega
            rw [if_pos c3, if_pos this]
          · have : i - 1 ≠ j + 1 := by
              intro e; apply c3; rw [hjn, if_neg (by omega)]; exact e
            rw [if_neg c3, if_neg this, if_neg (by omega)]
        · rw [if_neg (show ¬ i - 1 = j by omega), if_neg (by omega), if_neg (by omega), Nat.add_sub_cancel, show i - 1 + 1 = i by omega]
  · intro x hx
    rw [laid_row] at hx
    exact layRow_byte _ _ _ g.byte x hx
  · refine ⟨⟨n, (rg E j).stop, l⟩, ?_, rfl⟩
    exact List.mem_of_getElem? (i := j + 1) (by rw [insE_get _ hj, if_neg (by omega), if_pos rfl])
  · rw [laid_row, rl]
    have h1 := g.row8
    have h2 := stop_mod g.lies hjl
    have h3 := up8N_mod l
    rcases Nat.le_total s.row.length ((rg E j).stop + up8N l) with c | c
    · rw [Nat.max_eq_right c]; omega
    · rw [Nat.max_eq_left c]; omega
/-- what the extents of the ring hold is left -/
theorem laid_bytes (g : Ring s E) {j : Nat} (hj : j ≤ E.length) {n l : Nat} (hroom : j < E.length → (rg E j).stop + up8N l ≤ (rg E (j + 1)).p) (k : Nat) (hk : k < (ring E).length) (m o : Nat) : seg (s.laid n m o (rg E j).stop (up8N l)).row (rg E k).p (rg E k).l = seg s.row (rg E k).p (rg E k).l := by
  rw [laid_row]
  have hs := g.lies.2.2 _ (rg_mem hk)
  have hu := up8N_ge (rg E k).l
  unfold Ex.stop at hs
  have hjl : j < (ring E).length := by rw [ring_len]; omega
  refine layRow_out _ _ _ _ _ (by omega) ?_
  by_cases c : k ≤ j
  · left
    by_cases e : k = j
    · subst e; unfold Ex.stop; omega
    · have := rg_lt g.lies (i := k) (j := j) (by omega) hjl
      unfold Ex.stop at *; omega
  · right
    rw [ring_len] at hk
    have h1 := hroom (by omega)
    by_cases e : k = j + 1
    · subst e; exact h1
    · have := rg_lt g.lies (i := j + 1) (j := k) (by omega) (by rw [ring_len]; omega)
      unfold Ex.stop at *; omega
end
end Go.Proofs.YtgkakflnmpoadaaGreatDoor.W
/- Package store: an extent taken out of the ring; Good behind Give. -/
namespace Go.Proofs.YtgkakflnmpoadaaGreatDoor.W
set_option linter.unusedVariables false
section
variable {s : Sto} {E : List Ex}
theorem del_get {j : Nat} (h : j < E.length) (i : Nat) : (ring (E.eraseIdx j))[i]? = if i ≤ j then (ring E)[i]? else (ring E)[i + 1]? := by
  cases i with
  | zero => simp [ring]
  | succ i =>
    unfold ring
    rw [List.getElem?_cons_succ, List.getElem?_eraseIdx, List.getElem?_cons_succ, List.getElem?_cons_succ]
    by_cases c : i < j
    · rw [if_pos c, if_pos (by omega)]
    · rw [if_neg c, if_neg (by omega)]
theorem del_len {j : Nat} (h : j < E.length) : (E.eraseIdx j).length = E.length - 1 := List.length_eraseIdx_of_lt h
theorem nm_del {j : Nat} (h : j < E.length) (i : Nat) : nm (E.eraseIdx j) i = if i ≤ j then nm E i else nm E (i + 1) := by
  unfold nm; rw [del_get h]; split <;> rfl
theorem lies_del {r : Nat} (k : Lies E r) {j : Nat} (hj : j < E.length) : Lies (E.eraseIdx j) r := by
  refine ⟨?_, fun e he => k.2.1 e (List.mem_of_mem_eraseIdx he), ?_⟩
  · intro i a b ha hb
    rw [del_get hj] at ha hb
    by_cases c1 : i + 1 ≤ j
    · rw [if_pos (by omega)] at ha
      rw [if_pos c1] at hb
      exact k.1 i a b ha hb
    · rw [if_neg c1] at hb
      by_cases c2 : i = j
      · subst c2
        rw [if_pos (by omega)] at ha
        have h2 := (List.getElem?_eq_some_iff.1 hb).1
        have := rg_lt k (i := i) (j := i + 1 + 1) (by omega) h2
        rw [rg_of ha, rg_of hb] at this
        exact this
      · rw [if_neg (by omega)] at ha
        exact k.1 (i + 1) a b ha hb
  · intro e he
    rcases List.mem_cons.1 he with rfl | he
    · exact k.2.2 _ (List.mem_cons_self ..)
    · exact k.2.2 _ (List.mem_cons_of_mem _ (List.mem_of_mem_eraseIdx he))
theorem unlinked_get {n bk nx : Nat} {bb bx : Blk} (hb : s.get bk = some bb) (hx : s.get nx = some bx) (m : Nat) :
    (s.unlinked n bk nx).get m = if m = nx then some { (if m = bk then { bb with next := (nx : Int) } else bx) with back := bk } else if m = bk then some { bb with next := nx } else s.get m := by
  have e1 : s.getD bk = bb := getD_of hb
  have g2 : (s.un1 bk nx).get bk = some { bb with next := (nx : Int) } := by
    unfold Sto.un1; rw [e1]; exact get_set_same hb _
  have g2o : ∀ m, m ≠ bk → (s.un1 bk nx).get m = s.get m := fun m hm => get_set_ne _ hm
  have g2x : (s.un1 bk nx).get nx = some (if nx = bk then { bb with next := (nx : Int) } else bx) := by
    by_cases e : nx = bk
    · rw [if_pos e]; subst e; exact g2
    · rw [if_neg e, g2o _ e]; exact hx
  have e2 : (s.un1 bk nx).getD nx = (if nx = bk then { bb with next := (nx : Int) } else bx) := getD_of g2x
  show ((s.un1 bk nx).set nx _).get m = _
  by_cases c2 : m = nx
  · rw [if_pos c2]; subst c2
    rw [e2]; exact get_set_same g2x _
  · rw [if_neg c2, get_set_ne _ c2]
    by_cases c3 : m = bk
    · rw [if_pos c3]; subst c3; exact g2
    · rw [if_neg c3]; exact g2o _ c3
theorem unlinked_row (n bk nx : Nat) : (s.unlinked n bk nx).row = s.row := by
  show (s.un2 bk nx).row = _
  unfold Sto.un2 Sto.un1; rw [set_row, set_row]
theorem unlinked_free (n bk nx : Nat) : (s.unlinked n bk nx).free = s.free := by
  show (s.un2 bk nx).free = _
  unfold Sto.un2 Sto.un1; rw [set_free, set_free]
theorem unlinked_used (n bk nx : Nat) : (s.unlinked n bk nx).used = s.used := by
  show (s.un2 bk nx).used = _
  unfold Sto.un2 Sto.un1; rw [set_used, set_used]
theorem unlinked_len (n bk nx : Nat) : (s.unlinked n bk nx).blks.length = s.blks.length := by
  show (s.un2 bk nx).blks.length = _
  unfold Sto.un2 Sto.un1; rw [set_len, set_len]
theorem ring_unlinked (g : Ring s E) {j : Nat} (hj : j < E.length) : Ring (s.unlinked (nm E (j + 1)) (nm E j) (nm E (j + 2))) (E.eraseIdx j) := by
  have hjl : j < (ring E).length := by rw [ring_len]; omega
  have hjl1 : j + 1 < (ring E).length := by rw [ring_len]; omega
  have bkj : nm E j = (rg E j).n := nm_rg hjl
  obtain ⟨jn, hjn⟩ : ∃ jn, jn = if j + 1 = E.length then 0 else j + 2 := ⟨_, rfl⟩
  have hjnl : jn < (ring E).length := by rw [hjn, ring_len]; split <;> omega
  have nxj : nm E (j + 2) = (rg E jn).n := by
    by_cases c : j + 1 = E.length
    · rw [nm_out (by rw [ring_len]; omega), hjn, if_pos c]; rfl
    · rw [hjn, if_neg c]; exact nm_rg (by rw [ring_len]; omega)
  have gb : s.get (nm E j) = some (blkOf E j (rg E j)) := by rw [bkj]; exact g.get j _ (rg_get hjl)
  have gx : s.get (nm E (j + 2)) = some (blkOf E jn (rg E jn)) := by rw [nxj]; exact g.get jn _ (rg_get hjnl)
  have key := unlinked_get (n := nm E (j + 1)) gb gx
  have inj : ∀ {a b : Nat}, a < (ring E).length → b < (ring E).length → (rg E a).n = (rg E b).n → a = b := fun ha hb h => rg_inj g.nodup ha hb h
  have old : ∀ k, k < (ring E).length → (s.unlinked (nm E (j + 1)) (nm E j) (nm E (j + 2))).get (rg E k).n = some ⟨decide (0 < k), (rg E k).p, (rg E k).l, if k = jn then (nm E j : Nat) else (nm E (if k = 0 then E.length else k - 1) : Nat), if k = j then (nm E (j + 2) : Nat) else (nm E (k + 1) : Nat)⟩ := by
    intro k hk
    have e1 : ((rg E k).n = nm E (j + 2)) ↔ k = jn := by rw [nxj]; exact ⟨inj hk hjnl, fun e => by rw [e]⟩
    have e2 : ((rg E k).n = nm E j) ↔ k = j := by rw [bkj]; exact ⟨inj hk hjl, fun e => by rw [e]⟩
    have e3 : s.get (rg E k).n = some (blkOf E k (rg E k)) := g.get k _ (rg_get hk)
    rw [key]
    simp only [e1, e2, e3, blkOf_nm]
    by_cases c1 : k = jn
    · simp only [if_pos c1]
      by_cases c2 : k = j
      · simp only [if_pos c2]; rw [← c2]
      · simp only [if_neg c2]; rw [← c1]
    · simp only [if_neg c1]
      by_cases c2 : k = j
      · simp only [if_pos c2]; rw [← c2]
      · simp only [if_neg c2]
  refine ⟨?_, ?_, ?_, ?_, ?_, ?_⟩
  · have : ((ring (E.eraseIdx j)).map Ex.n).Sublist ((ring E).map Ex.n) := ((List.eraseIdx_sublist E j).cons_cons front).map Ex.n
    exact g.nodup.sublist this
  · rw [unlinked_row]; exact lies_del g.lies hj
  · intro i e he
    rw [del_get hj] at he
    rw [blkOf_nm, nm_del hj, nm_del hj, del_len hj]
    by_cases c1 : i ≤ j
    · rw [if_pos c1] at he
      have hil := (List.getElem?_eq_some_iff.1 he).1
      rw [← rg_of he, old i hil]
      congr 2
      · by_cases c2 : i = jn
        · have : i = 0 ∧ j + 1 = E.length := by
            rw [hjn] at c2; split at c2
            · exact ⟨c2, by assumption⟩
            · omega
          rw [if_pos c2, this.1, if_pos rfl, if_pos (by omega), show E.length - 1 = j by omega]
        · rw [if_neg c2]
          by_cases c3 : i = 0
          · have : j + 1 ≠ E.length := by intro h; exact c2 (by rw [c3, hjn, if_pos h])
            rw [c3, if_pos rfl, if_pos rfl, if_neg (by omega), show E.length - 1 + 1 = E.length by omega]
          · rw [if_neg c3, if_neg c3, if_pos (by omega)]
      · by_cases c2 : i = j
        · rw [if_pos c2, if_neg (by omega), c2]
        · rw [if_neg c2, if_pos (by omega)]
    · rw [if_neg c1] at he
      have hil := (List.getElem?_eq_some_iff.1 he).1
      have hil' := hil
      rw [ring_len] at hil'
      rw [← rg_of he, old (i + 1) hil]
      have d : decide (0 < i + 1) = decide (0 < i) := by
        have h1 : 0 < i + 1 := by omega
        have h2 : 0 < i := by omega
        rw [decide_eq_true h1, decide_eq_true h2]
      rw [d]
      congr 2
      · rw [if_neg (show ¬ i = 0 by omega)]
        by_cases c3 : i + 1 = jn
        · have : i = j + 1 := by
            rw [hjn] at c3; split at c3 <;> omega
          rw [if_pos c3, if_pos (show i - 1 ≤ j by omega), show i - 1 = j by omega]
        · have : i ≠ j + 1 := by
            intro e; apply c3; rw [hjn, if_neg (by omega)]; omega
          rw [if_neg c3, if_neg (show ¬ i + 1 = 0 by omega), if_neg (show ¬ i - 1 ≤ j by omega), show i - 1 + 1 = i + 1 - 1 by omega]
      · rw [if_neg (show ¬ i + 1 = j by omega), if_neg (by omega)]
  · intro x hx
    rw [unlinked_row] at hx
    exact g.byte x hx
  · obtain ⟨e, he, hh⟩ := g.hand
    show ∃ e ∈ ring (E.eraseIdx j), (if s.hand = (nm E (j + 1) : Nat) then ((nm E j : Nat) : Int) else s.hand) = (e.n : Nat)
    by_cases c : s.hand = (nm E (j + 1) : Nat)
    · rw [if_pos c]
      refine ⟨rg E j, List.mem_of_getElem? (i := j) (by rw [del_get hj, if_pos (Nat.le_refl _)]; exact rg_get hjl), by rw [bkj]⟩
    · rw [if_neg c]
      obtain ⟨i, hi, rfl⟩ := List.mem_iff_getElem.1 he
      have hi' : (ring E)[i]? = some (ring E)[i] := List.getElem?_eq_getElem hi
      have hne : i ≠ j + 1 := by
        rintro rfl
        apply c
        rw [hh, nm_rg hjl1, rg_of hi']
      refine ⟨_, ?_, hh⟩
      by_cases c2 : i ≤ j
      · exact List.mem_of_getElem? (i := i) (by rw [del_get hj, if_pos c2]; exact hi')
      · exact List.mem_of_getElem? (i := i - 1) (by rw [del_get hj, if_neg (by omega), show i - 1 + 1 = i by omega]; exact hi')
  · rw [unlinked_row]; exact g.row8
theorem Ring.congr {t : Sto} (g : Ring s E) (hg : ∀ m ∈ numE E, t.get m = s.get m) (hr : t.row = s.row) (hh : t.hand = s.hand) : Ring t E :=
  ⟨g.nodup, by rw [hr]; exact g.lies, fun i e he => by rw [hg _ (List.mem_map_of_mem (List.mem_of_getElem? he))]; exact g.get i e he, by rw [hr]; exact g.byte, by rw [hh]; exact g.hand, by rw [hr]; exact g.row8⟩
end
end Go.Proofs.YtgkakflnmpoadaaGreatDoor.W
/- Package store: Good behind Take. -/
namespace Go.Proofs.YtgkakflnmpoadaaGreatDoor.W
set_option linter.unusedVariables false
theorem set_turn (s : Sto) (n : Nat) (c : Blk) (h : Int) (b : Bool) : (s.turn h b).set n c = (s.set n c).turn h b := by
  unfold Sto.set; split <;> rfl
section
variable {s : Sto} {c : List Nat} {bl : Nat → Blk} {p l en : Nat → Nat}
theorem packN_turn (h : Int) (b : Bool) (i : Nat) : packN (s.turn h b) c bl p l en (i + 1) = (packN s c bl p l en (i + 1)).turn (c.getD i 0 : Nat) b := by
  induction i with
  | zero =>
    show ({ (s.turn h b).set (c.getD 0 0) { bl 0 with pos := en 0 } with row := _, hand := _ } : Sto) = _
    rw [set_turn]; rfl
  | succ i ih =>
    show ({ (packN (s.turn h b) c bl p l en (i + 1)).set (c.getD (i + 1) 0) { bl (i + 1) with pos := en (i + 1) } with row := setL (packN (s.turn h b) c bl p l en (i + 1)).row _ (seg (packN (s.turn h b) c bl p l en (i + 1)).row _ _), hand := _ } : Sto) = _
    rw [ih, set_turn]; rfl
theorem packed_turn (h : Int) (b : Bool) (hc : 0 < c.length) : packedSto (s.turn h b) c bl p l en = packedSto s c bl p l en := by
  obtain ⟨m, hm⟩ : ∃ m, c.length = m + 1 := ⟨c.length - 1, by omega⟩
  unfold packedSto
  rw [hm, packN_turn]
  rfl
end
/-- what an Id holds -/
def held (s : Sto) (id : Nat) : Option (List Nat) := match s.blks[id]? with | some b => if b.live = true then some (seg s.row b.pos.toNat b.len.toNat) else none | none => none
section
variable {s : Sto} {E : List Ex}
theorem held_get {t : Sto} (id : Nat) (h : t.get (id + 1) = s.get (id + 1)) (hr : ∀ b, s.get (id + 1) = some b → b.live = true → seg t.row b.pos.toNat b.len.toNat = seg s.row b.pos.toNat b.len.toNat) : held t id = held s id := by
  rw [get_blks, get_blks] at h
  unfold held
  rw [h]
  rw [get_blks] at hr
  cases e : s.blks[id]? with
  | none => rfl
  | some b =>
    simp only []
    by_cases c : b.live = true
    · rw [if_pos c, if_pos c, hr b e c]
    · rw [if_neg c, if_neg c]
theorem held_rg (g : Ring s E) {k : Nat} (hk : k + 1 < (ring E).length) {id : Nat} (hid : id + 1 = (rg E (k + 1)).n) : held s id = some (seg s.row (rg E (k + 1)).p (rg E (k + 1)).l) := by
  have h1 := g.get (k + 1) _ (rg_get hk)
  rw [← hid, get_blks] at h1
  unfold held
  rw [h1]
  simp [blkOf]
theorem mem_rg {n : Nat} (h : n ∈ numE E) (h0 : n ≠ 0) : ∃ k, k + 1 < (ring E).length ∧ n = (rg E (k + 1)).n := by
  obtain ⟨j, hj, e⟩ := List.mem_iff_getElem.1 h
  have h1 : (numE E)[j]? = some n := by rw [List.getElem?_eq_getElem hj, e]
  obtain ⟨h2, h3⟩ := numE_get h1
  cases j with
  | zero => exact absurd h3 h0
  | succ k => exact ⟨k, h2, h3⟩
/-- Good but for an Id that has been taken out of the heap -/
structure Half (s : Sto) (E : List Ex) (id : Nat) : Prop where
  rng : Ring s E
  out : id + 1 ∉ numE E
  blk : s.blks[id]? = some noBlk
  zero : ∀ i b, s.blks[i]? = some b → i + 1 ∉ numE E → b = noBlk ∨ b = ⟨true, 0, 0, 0, 0⟩
  heap : IsHeap s.free s.free.length
  nodupF : s.free.Nodup
  free : ∀ x : Int, x ∈ s.free ↔ ∃ i : Nat, x = i ∧ i ≠ id ∧ s.blks[i]? = some noBlk
  used : s.used = ((E.map (fun e => up8N e.l)).foldr (· + ·) 0 : Nat)
theorem took_get (id : Nat) (n : Int) (m : Nat) (h : m ≠ id + 1) : (s.took id n).get m = s.get m := by
  unfold Sto.get
  by_cases c : m = 0
  · rw [if_pos c, if_pos c]; rfl
  · rw [if_neg c, if_neg c]
    show (s.blks.set id _)[m - 1]? = _
    rw [List.getElem?_set_ne (by omega)]
theorem took_get_id (id : Nat) (n : Int) (h : id < s.blks.length) : (s.took id n).get (id + 1) = some ⟨true, 0, n, 0, 0⟩ := by
  rw [get_blks]
  show (s.blks.set id _)[id]? = _
  rw [List.getElem?_set_self h]
theorem half_took {id : Nat} (h : Half s E id) (n : Int) : Ring (s.took id n) E :=
  h.rng.congr (fun m hm => took_get _ _ _ (by rintro rfl; exact h.out hm)) rfl rfl
/-- the sum of all that is taken -/
def sumE (E : List Ex) : Nat := (E.map (fun e => up8N e.l)).foldr (· + ·) 0
theorem sumE_ins {j : Nat} (e : Ex) : sumE (insE E j e) = sumE E + up8N e.l := by
  unfold sumE insE
  rw [List.map_append, List.map_cons, List.foldr_append, List.foldr_cons]
  have hE : E.map (fun e => up8N e.l) = (E.take j).map (fun e => up8N e.l) ++ (E.drop j).map (fun e => up8N e.l) := by rw [← List.map_append, List.take_append_drop]
  rw [hE, List.foldr_append]
  generalize (E.take j).map (fun e => up8N e.l) = L
  generalize (List.foldr (· + ·) 0 ((E.drop j).map (fun e => up8N e.l))) = z
  induction L with
  | nil => simp; omega
  | cons a L ih => simp only [List.foldr_cons]; omega
theorem enE_shift (E : List Ex) (e : Ex) (i : Nat) : enE (e :: E) (i + 2) = up8N e.l + enE E (i + 1) := by
  induction i with
  | zero =>
    show 0 + up8N (rg (e :: E) 0).l + up8N (rg (e :: E) 1).l = up8N e.l + (0 + up8N (rg E 0).l)
    have h1 : rg (e :: E) 0 = front := rfl
    have h2 : rg (e :: E) 1 = e := rfl
    have h3 : rg E 0 = front := rfl
    rw [h1, h2, h3]
    have : up8N front.l = 0 := rfl
    omega
  | succ i ih =>
    show enE (e :: E) (i + 2) + up8N (rg (e :: E) (i + 2)).l = up8N e.l + (enE E (i + 1) + up8N (rg E (i + 1)).l)
    have h1 : rg (e :: E) (i + 2) = rg E (i + 1) := rfl
    rw [ih, h1]; omega
theorem enE_sum (E : List Ex) : enE E (ring E).length = sumE E := by
  induction E with
  | nil => rfl
  | cons e E ih =>
    have : (ring (e :: E)).length = E.length + 2 := rfl
    rw [this, enE_shift]
    have h2 : (ring E).length = E.length + 1 := rfl
    rw [h2] at ih
    rw [ih]; rfl
theorem blks_set_get (id : Nat) (b : Blk) (i : Nat) (h : i ≠ id) : (s.blks.set id b)[i]? = s.blks[i]? := List.getElem?_set_ne (by omega)
/-- behind lay: what has been taken is in the ring -/
theorem half_good {t : Sto} {E' : List Ex} {id j l q : Nat} (h : Half s E id) (hid : id < s.blks.length) (hE' : numE E' = numE E) (hsum : sumE E' = sumE E) (g : Ring t E') (hj : j ≤ E'.length) (hl : 0 < l) (hfr : t.free = s.free) (hus : t.used = s.used + (up8N l : Nat)) (hlen : t.blks.length = s.blks.length) (hq : q = (rg E' j).stop)
    (hget : ∀ m, m ∉ numE E → t.get m = (s.took id l).get m) (hby : ∀ k, k + 1 < (ring E).length → (rg E' (k + 1)).l = (rg E (k + 1)).l ∧ seg t.row (rg E' (k + 1)).p (rg E' (k + 1)).l = seg s.row (rg E (k + 1)).p (rg E (k + 1)).l) (hroom : j < E'.length → (rg E' j).stop + up8N l ≤ (rg E' (j + 1)).p) :
    Good (t.laid (id + 1) (nm E' j) (nm E' (j + 1)) q (up8N l)) (insE E' j ⟨id + 1, q, l⟩) ∧ ∀ i, held (t.laid (id + 1) (nm E' j) (nm E' (j + 1)) q (up8N l)) i = if i = id then some (List.replicate l 0) else held s i := by
  subst hq
  have hout : id + 1 ∉ numE E' := by rw [hE']; exact h.out
  have hgid : t.get (id + 1) = some ⟨true, 0, l, 0, 0⟩ := by rw [hget _ h.out]; exact took_get_id _ _ hid
  have R := ring_laid g hj hout hl hgid hroom
  have hEl : E'.length = E.length := by
    have := congrArg List.length hE'
    rw [numE_len, numE_len] at this; omega
  have hjl : j < (ring E').length := by rw [ring_len]; omega
  have hbk : nm E' j ∈ numE E' := by rw [nm_rg hjl]; exact numE_mem hjl
  have h0 : 0 ∈ numE E' := List.mem_cons_self ..
  have hnx : nm E' (j + 1) ∈ numE E' := by
    by_cases c : j + 1 < (ring E').length
    · rw [nm_rg c]; exact numE_mem c
    · rw [nm_out (by omega)]; exact h0
  have hself : ∀ m ∈ numE E', ∃ b, t.get m = some b := by
    intro m hm
    obtain ⟨i, hi, e⟩ := List.mem_iff_getElem.1 hm
    obtain ⟨h2, h3⟩ := numE_get (E := E') (i := i) (n := m) (by rw [List.getElem?_eq_getElem hi, e])
    exact ⟨_, by rw [h3]; exact g.get i _ (rg_get h2)⟩
  obtain ⟨bb, hbb⟩ := hself _ hbk
  obtain ⟨bx, hbx⟩ := hself _ hnx
  have key := laid_get (rg E' j).stop (up8N l) hgid hbb hbx (by intro e; exact hout (e ▸ hbk)) (by intro e; exact hout (e ▸ hnx))
  have kout : ∀ m, m ≠ id + 1 → m ∉ numE E → (t.laid (id + 1) (nm E' j) (nm E' (j + 1)) (rg E' j).stop (up8N l)).get m = s.get m := by
    intro m hm hn
    have hn' : m ∉ numE E' := by rw [hE']; exact hn
    rw [key, if_neg hm, if_neg (by rintro rfl; exact hn' hnx), if_neg (by rintro rfl; exact hn' hbk), hget m hn]
    exact took_get _ _ _ hm
  have kid : (t.laid (id + 1) (nm E' j) (nm E' (j + 1)) (rg E' j).stop (up8N l)).get (id + 1) = some ⟨true, (rg E' j).stop, l, (nm E' j : Nat), (nm E' (j + 1) : Nat)⟩ := by rw [key, if_pos rfl]
  have hmem : ∀ m, m ∈ (ring (insE E' j ⟨id + 1, (rg E' j).stop, l⟩)).map Ex.n ↔ m = id + 1 ∨ m ∈ numE E := by
    intro m
    rw [(insE_num _).mem_iff, List.mem_cons, ← hE']; rfl
  refine ⟨R.good ⟨?_, ?_, ?_, ?_, ?_⟩, ?_⟩
  · intro i b hb hn
    rw [hmem] at hn
    rw [← get_blks, kout (i + 1) (fun e => hn (.inl e)) (fun e => hn (.inr e)), get_blks] at hb
    exact h.zero i b hb (fun e => hn (.inr e))
  · rw [laid_free, hfr]; exact h.heap
  · rw [laid_free, hfr]; exact h.nodupF
  · intro x
    rw [laid_free, hfr, h.free x]
    have kk : ∀ i : Nat, (i ≠ id ∧ s.blks[i]? = some noBlk) ↔ (t.laid (id + 1) (nm E' j) (nm E' (j + 1)) (rg E' j).stop (up8N l)).blks[i]? = some noBlk := by
      intro i
      by_cases c1 : i = id
      · subst c1
        constructor
        · rintro ⟨e, _⟩; exact absurd rfl e
        · intro e
          rw [← get_blks, kid] at e
          cases e
      · by_cases c2 : i + 1 ∈ numE E
        · obtain ⟨b1, e1, l1⟩ := ring_live h.rng i c2
          obtain ⟨b2, e2, l2⟩ := ring_live R i ((hmem _).2 (.inr c2))
          rw [e1, e2]
          constructor
          · rintro ⟨_, e⟩; cases e; cases l1
          · rintro e; cases e; cases l2
        · rw [← get_blks, ← get_blks, kout (i + 1) (by omega) c2]
          exact ⟨fun e => e.2, fun e => ⟨c1, e⟩⟩
    constructor
    · rintro ⟨i, e, h1⟩; exact ⟨i, e, (kk i).1 h1⟩
    · rintro ⟨i, e, h1⟩; exact ⟨i, e, (kk i).2 h1⟩
  · rw [laid_used, hus, h.used]
    have : sumE (insE E' j ⟨id + 1, (rg E' j).stop, l⟩) = sumE E + up8N l := by rw [sumE_ins, hsum]
    unfold sumE at this
    rw [this]; push_cast; rfl
  · intro i
    by_cases c1 : i = id
    · rw [if_pos c1, c1]
      unfold held
      rw [← get_blks, kid]
      simp only [if_true, Int.toNat_natCast, laid_row]
      rw [layRow_in _ _ _ _ (up8N_ge l)]
    · rw [if_neg c1]
      by_cases c2 : i + 1 ∈ numE E
      · obtain ⟨k, hk, hki⟩ := mem_rg c2 (by omega)
        rw [held_rg h.rng hk hki]
        obtain ⟨hb1, hb2⟩ := hby k hk
        have hk' : k + 1 < (ring E').length := by rw [ring_len, hEl]; rw [ring_len] at hk; omega
        have hn' : (rg E' (k + 1)).n = (rg E (k + 1)).n := by
          have := congrArg (fun L => L[k + 1]?) hE'
          unfold numE at this
          simp only [List.getElem?_map, rg_get hk, rg_get hk', Option.map_some] at this
          exact Option.some.inj this
        rw [← hb2, ← laid_bytes g hj (n := id + 1) hroom (k + 1) hk' (nm E' j) (nm E' (j + 1))]
        have hlt : (ring (insE E' j ⟨id + 1, (rg E' j).stop, l⟩)).length = E'.length + 2 := by rw [ring_len, insE_len _ hj]
        by_cases c3 : k + 1 ≤ j
        · have e1 : rg (insE E' j ⟨id + 1, (rg E' j).stop, l⟩) (k + 1) = rg E' (k + 1) := rg_of (by rw [insE_get _ hj, if_pos c3]; exact rg_get hk')
          have := held_rg R (k := k) (by omega) (id := i) (by rw [e1, hn']; exact hki)
          rw [this, e1]
        · have hkl := hk'
          rw [ring_len] at hkl
          have e1 : rg (insE E' j ⟨id + 1, (rg E' j).stop, l⟩) (k + 1 + 1) = rg E' (k + 1) := rg_of (by rw [insE_get _ hj, if_neg (by omega), if_neg (by omega), Nat.add_sub_cancel]; exact rg_get hk')
          have := held_rg R (k := k + 1) (by omega) (id := i) (by rw [e1, hn']; exact hki)
          rw [this, e1]
      · refine held_get i (kout _ (by omega) c2) ?_
        intro b hb hlv
        rw [get_blks] at hb
        rcases h.zero i b hb c2 with rfl | rfl
        · cases hlv
        · rfl
end
end Go.Proofs.YtgkakflnmpoadaaGreatDoor.W
/- Package store: Good behind Take, whatever seek finds. -/
namespace Go.Proofs.YtgkakflnmpoadaaGreatDoor.W
set_option linter.unusedVariables false
section
variable {s : Sto} {E : List Ex}
theorem nm_numE (i : Nat) : (numE E)[i]?.getD 0 = nm E i := by unfold nm numE; rw [List.getElem?_map]
theorem packE_lens (e : Ex) (he : e ∈ packE E) : ∃ f ∈ E, f.l = e.l := by
  obtain ⟨i, hi, rfl⟩ := List.mem_iff_getElem.1 he
  have h1 := packE_get (E := E) (i := i + 1) (by rw [packE_len] at hi; rw [ring_len]; omega)
  unfold ring at h1
  rw [List.getElem?_cons_succ, List.getElem?_eq_getElem hi] at h1
  rw [Option.some.inj h1]
  exact ⟨_, rg_memE (E := E) (i := i) (by rw [packE_len] at hi; rw [ring_len]; omega), rfl⟩
theorem packE_sum : sumE (packE E) = sumE E := packed_used
theorem insE_mem {j : Nat} {e f : Ex} (h : f ∈ insE E j e) : f = e ∨ f ∈ E := by
  unfold insE at h
  rcases List.mem_append.1 h with h | h
  · exact .inr (List.mem_of_mem_take h)
  · rcases List.mem_cons.1 h with h | h
    · exact .inl h
    · exact .inr (List.mem_of_mem_drop h)
theorem stop_int (e : Ex) : (e.p : Int) + up8 (e.l : Int) = (e.stop : Nat) := by rw [up8N_eq]; unfold Ex.stop; push_cast; rfl
abbrev skG (t : Sto) (E : List Ex) (size : Int) (s4 : Sto) (bk nx q : Nat) : Prop := SeekG t (numE E) (fun i => blkOf E i (rg E i)) (fun i => (rg E i).p) (fun i => (rg E i).l) (fun i => up8N (rg E i).l) (enE E) size s4 bk nx q
theorem seekG_good {id l bk nx q : Nat} {s4 : Sto} (h : Half s E id) (hid : id < s.blks.length) (hl : 0 < l) (hG : skG (s.took id l) E (up8N l : Nat) s4 bk nx q) :
    ∃ E', Good (s4.laid (id + 1) bk nx q (up8N l)) E' ∧ (∀ i, held (s4.laid (id + 1) bk nx q (up8N l)) i = if i = id then some (List.replicate l 0) else held s i) ∧ (∀ e ∈ E', e.l = l ∨ ∃ f ∈ E, f.l = e.l) ∧ sumE E' = sumE E + up8N l ∧ (s4.laid (id + 1) bk nx q (up8N l)).blks.length = s.blks.length ∧ (s4.laid (id + 1) bk nx q (up8N l)).row.length ≤ max s.row.length (2 * (sumE E + up8N l) + 64) := by
  have R := half_took h (l : Int)
  have hus : (s.took id l).used = s.used + (up8N l : Nat) := by
    show s.used + up8 (l : Int) = _
    rw [up8N_eq]
  have hbl : (s.took id l).blks.length = s.blks.length := by
    show (s.blks.set id _).length = _
    simp
  rcases hG with ⟨j, b, hbk, rfl, hnx, hq, hroom⟩ | ⟨hd, b, rfl, hbk, rfl, hq⟩
  · obtain ⟨hjl, hbk'⟩ := numE_get hbk
    have hj : j ≤ E.length := by rw [ring_len] at hjl; omega
    have e1 : bk = nm E j := by rw [nm_rg hjl]; exact hbk'
    have e2 : nx = nm E (j + 1) := by rw [hnx, nm_numE]
    have e3 : q = (rg E j).stop := hq
    have gj := R.get j _ (rg_get hjl)
    unfold roomAt roomOf at hroom
    rw [getD_get hbk, hbk', getD_of gj, nm_numE] at hroom
    have hst : (blkOf E j (rg E j)).stop = ((rg E j).stop : Nat) := stop_int _
    rw [hst] at hroom
    have hr1 : j < E.length → (rg E j).stop + up8N l ≤ (rg E (j + 1)).p := by
      intro hjE
      have h1 : j + 1 < (ring E).length := by rw [ring_len]; omega
      rw [nm_rg h1, if_neg (h.rng.lies.2.1 _ (rg_memE h1)).2.2, getD_of (R.get (j + 1) _ (rg_get h1))] at hroom
      have : (blkOf E (j + 1) (rg E (j + 1))).pos = ((rg E (j + 1)).p : Nat) := rfl
      omega
    have hr2 : j = E.length → (rg E j).stop + up8N l ≤ 2 * (sumE E + up8N l) + 64 := by
      intro hjE
      rw [nm_out (by rw [ring_len]; omega), if_pos rfl, hus, h.used] at hroom
      change _ ≤ 2 * (((sumE E : Nat) : Int) + _) + 64 - _ at hroom
      omega
    subst e1 e2
    have T : Ring ((s.took id l).turn (nm E j : Nat) b) E := ⟨R.nodup, R.lies, R.get, R.byte, ⟨rg E j, rg_mem hjl, by rw [← nm_rg hjl]; rfl⟩, R.row8⟩
    have hh := half_good h hid rfl rfl T hj hl rfl hus hbl e3 (fun m _ => rfl) (fun k hk => ⟨rfl, rfl⟩) hr1
    refine ⟨_, hh.1, hh.2, ?_, sumE_ins _, ?_, ?_⟩
    · intro e he
      rcases insE_mem he with rfl | he
      · exact .inl rfl
      · exact .inr ⟨e, he, rfl⟩
    · rw [laid_len]; exact hbl
    · rw [laid_row, layRow_len]
      show max s.row.length (q + up8N l) ≤ _
      by_cases c : j < E.length
      · have h1 := hr1 c
        have h2 := h.rng.lies.2.2 _ (rg_mem (E := E) (i := j + 1) (by rw [ring_len]; omega))
        unfold Ex.stop at h2
        rw [e3]; omega
      · have := hr2 (by omega)
        rw [e3]; omega
  · have hc : 0 < (numE E).length := by rw [numE_len]; omega
    rw [packed_turn hd b hc]
    have T := ring_packed R
    have hl2 : (packE E).length = E.length := packE_len
    have hjl : (packE E).length < (ring E).length := by rw [hl2, ring_len]; omega
    have hn1 : (numE E).length - 1 = (packE E).length := by rw [numE_len, hl2]; omega
    rw [hn1] at hbk
    have e1 : bk = nm (packE E) (packE E).length := by
      rw [← nm_numE, packE_num, hbk]; rfl
    have e2 : 0 = nm (packE E) ((packE E).length + 1) := (nm_out (by rw [ring_len]; omega)).symm
    have hrg : rg (packE E) (packE E).length = ⟨(rg E (packE E).length).n, enE E (packE E).length, (rg E (packE E).length).l⟩ := packE_rg hjl
    have e3 : q = (rg (packE E) (packE E).length).stop := by
      rw [hq, hrg]
      show enE E (numE E).length = enE E (packE E).length + up8N _
      rw [show (numE E).length = (packE E).length + 1 by omega]; rfl
    have hpr := packN_rest (s := s.took id l) (c := numE E) (bl := fun i => blkOf E i (rg E i)) (p := fun i => (rg E i).p) (l := fun i => (rg E i).l) (en := enE E) (numE E).length
    have hh := half_good h hid packE_num packE_sum T (Nat.le_refl _) hl hpr.1 (hpr.2.1.trans hus) ((packN_blks _).trans hbl) e3 (fun m hm => packN_other _ _ (Nat.le_refl _) hm) (fun k hk => by
      rw [packE_rg hk]
      refine ⟨rfl, ?_⟩
      show seg ((pkE (s.took id l) E (numE E).length).row.take (enE E (numE E).length)) (enE E (k + 1)) (rg E (k + 1)).l = _
      have hb := (ring_bytes R (numE E).length (by rw [numlen]; omega)).2 (k + 1) (by rw [numlen]; omega)
      have hle := enE_le_all (E := E) hk
      have hu := up8N_ge (rg E (k + 1)).l
      rw [seg_take _ _ _ _ (by rw [numlen]; omega), hb]; rfl) (fun hh => absurd hh (by omega))
    rw [← e1, ← e2] at hh
    refine ⟨_, hh.1, hh.2, ?_, (sumE_ins _).trans (by rw [packE_sum]), ?_, ?_⟩
    · intro e he
      rcases insE_mem he with rfl | he
      · exact .inl rfl
      · exact .inr (packE_lens e he)
    · rw [laid_len]; exact (packN_blks _).trans hbl
    · rw [laid_row, layRow_len, pkd_row R]
      have : q = sumE E := by rw [hq, numlen, enE_sum]
      rw [this, enE_sum]
      omega
end
end Go.Proofs.YtgkakflnmpoadaaGreatDoor.W
/- Package store: the least Id; what all Ids hold, as a list. -/
namespace Go.Proofs.YtgkakflnmpoadaaGreatDoor.W
set_option linter.unusedVariables false
section
variable {s : Sto} {E : List Ex}
theorem held_none (g : Good s E) {i : Nat} (hi : i < s.blks.length) : held s i = none ↔ (i : Int) ∈ s.free := by
  rw [g.free]
  have hb : s.blks[i]? = some s.blks[i] := List.getElem?_eq_getElem hi
  constructor
  · intro h
    refine ⟨i, rfl, ?_⟩
    by_cases c : i + 1 ∈ numE E
    · obtain ⟨b, e, l⟩ := ring_live g.rng i c
      unfold held at h
      rw [e] at h
      simp [l] at h
    · rcases g.zero i _ hb c with e | e
      · rw [hb, e]
      · unfold held at h
        rw [hb, e] at h
        simp at h
  · rintro ⟨k, e, h⟩
    have : i = k := by omega
    subst this
    unfold held
    rw [h]; rfl
/-- what all Ids hold -/
def All (s : Sto) (A : List (Option (List Nat))) : Prop := s.blks.length = A.length ∧ ∀ i, held s i = (A[i]?).getD none
theorem All.at {A : List (Option (List Nat))} (h : All s A) {i : Nat} (hi : i < A.length) : held s i = A[i] := by
  rw [h.2, List.getElem?_eq_getElem hi]; rfl
def leastA (A : List (Option (List Nat))) : Nat := A.findIdx (fun x => x.isNone)
theorem least_none {A : List (Option (List Nat))} (h : All s A) (g : Good s E) (hf : s.free = []) : leastA A = A.length := by
  unfold leastA
  rw [List.findIdx_eq_length]
  intro x hx
  obtain ⟨i, hi, rfl⟩ := List.mem_iff_getElem.1 hx
  cases e : A[i] with
  | some y => rfl
  | none =>
    have h1 := h.at hi
    rw [e, held_none g (by rw [h.1]; exact hi), hf] at h1
    cases h1
theorem least_some {A : List (Option (List Nat))} (h : All s A) (g : Good s E) (hf : 0 < s.free.length) : hp s.free 0 = (leastA A : Nat) ∧ leastA A < A.length := by
  have hm : hp s.free 0 ∈ s.free := by
    unfold hp
    rw [List.getD, List.getElem?_eq_getElem hf]
    exact List.getElem_mem _
  obtain ⟨k, hk, hb⟩ := (g.free _).1 hm
  have hkl : k < A.length := by rw [← h.1]; exact (List.getElem?_eq_some_iff.1 hb).1
  have hkn : A[k] = none := by
    rw [← h.at hkl, held_none g (by rw [h.1]; exact hkl), ← hk]; exact hm
  have : leastA A = k := by
    unfold leastA
    rw [List.findIdx_eq hkl]
    refine ⟨by rw [hkn]; rfl, ?_⟩
    intro j hj
    cases e : A[j] with
    | some y => rfl
    | none =>
      exfalso
      have h1 := h.at (i := j) (by omega)
      rw [e, held_none g (by rw [h.1]; omega)] at h1
      obtain ⟨q, hq, e2⟩ := List.mem_iff_getElem.1 h1
      have h2 := heap_least g.heap q hq
      have h3 : hp s.free q = (j : Int) := by unfold hp; rw [List.getD, List.getElem?_eq_getElem hq]; exact e2
      omega
  rw [this]
  exact ⟨hk, hkl⟩
def putA (A : List (Option (List Nat))) (id : Nat) (x : Option (List Nat)) : List (Option (List Nat)) := if id < A.length then A.set id x else A ++ [x]
theorem half_new {A : List (Option (List Nat))} (h : All s A) (g : Good s E) (hf : s.free = []) : Half { s with blks := s.blks ++ [noBlk] } E s.blks.length ∧ ∀ i, held { s with blks := s.blks ++ [noBlk] } i = held s i := by
  have hout : s.blks.length + 1 ∉ numE E := by
    intro c
    obtain ⟨b, e, _⟩ := ring_live g.rng _ c
    have := (List.getElem?_eq_some_iff.1 e).1
    omega
  have hold : ∀ i, i ≠ s.blks.length → (s.blks ++ [noBlk])[i]? = s.blks[i]? := by
    intro i hi
    by_cases c : i < s.blks.length
    · rw [List.getElem?_append_left c]
    · rw [List.getElem?_eq_none (by simp; omega), List.getElem?_eq_none (by omega)]
  have hnew : (s.blks ++ [noBlk])[s.blks.length]? = some noBlk := by simp
  refine ⟨⟨g.rng.congr ?_ rfl rfl, hout, hnew, ?_, g.heap, g.nodupF, ?_, g.used⟩, ?_⟩
  · intro m hm
    by_cases c : m = 0
    · rw [c]; rfl
    · obtain ⟨k, rfl⟩ : ∃ k, m = k + 1 := ⟨m - 1, by omega⟩
      rw [get_blks, get_blks]
      exact hold k (by rintro rfl; exact hout hm)
  · intro i b hb hn
    by_cases c : i = s.blks.length
    · subst c; change (s.blks ++ [noBlk])[s.blks.length]? = _ at hb; rw [hnew] at hb; cases hb; exact .inl rfl
    · change (s.blks ++ [noBlk])[i]? = _ at hb
      rw [hold i c] at hb
      exact g.zero i b hb hn
  · intro x
    show x ∈ s.free ↔ ∃ i : Nat, x = i ∧ i ≠ s.blks.length ∧ (s.blks ++ [noBlk])[i]? = some noBlk
    rw [g.free]
    constructor
    · rintro ⟨i, e, hb⟩
      have : i ≠ s.blks.length := by
        have := (List.getElem?_eq_some_iff.1 hb).1; omega
      exact ⟨i, e, this, by rw [hold i this]; exact hb⟩
    · rintro ⟨i, e, hi, hb⟩
      exact ⟨i, e, by rw [← hold i hi]; exact hb⟩
  · intro i
    unfold held
    show (match (s.blks ++ [noBlk])[i]? with | some b => _ | none => _) = _
    by_cases c : i = s.blks.length
    · subst c; rw [hnew, List.getElem?_eq_none (Nat.le_refl _)]; rfl
    · rw [hold i c] <;> rfl
theorem half_pop {id : Nat} {free' : List Int} (g : Good s E) (hid : hp s.free 0 = (id : Nat)) (hp' : (hp s.free 0 :: free').Perm s.free) (hh : IsHeap free' free'.length) : Half (s.fr free') E id ∧ ∀ i, held (s.fr free') i = held s i := by
  rw [hid] at hp'
  have hm : (id : Int) ∈ s.free := hp'.mem_iff.1 (List.mem_cons_self ..)
  obtain ⟨k, hk, hb⟩ := (g.free _).1 hm
  have : id = k := by omega
  subst this
  have hnd := hp'.nodup_iff.2 g.nodupF
  rw [List.nodup_cons] at hnd
  refine ⟨⟨g.rng.congr (fun _ _ => rfl) rfl rfl, ?_, hb, g.zero, hh, hnd.2, ?_, g.used⟩, fun i => rfl⟩
  · intro c
    obtain ⟨b, e, l⟩ := ring_live g.rng _ c
    rw [hb] at e; cases e; cases l
  · intro x
    show x ∈ free' ↔ _
    constructor
    · intro hx
      have h1 : x ∈ s.free := hp'.mem_iff.1 (List.mem_cons_of_mem _ hx)
      obtain ⟨i, e, hb⟩ := (g.free x).1 h1
      refine ⟨i, e, ?_, hb⟩
      rintro rfl
      exact hnd.1 (e ▸ hx)
    · rintro ⟨i, e, hi, hb⟩
      have h1 : x ∈ s.free := (g.free x).2 ⟨i, e, hb⟩
      rcases List.mem_cons.1 (hp'.mem_iff.2 h1) with c | c
      · omega
      · exact c
/-- no bytes taken -/
theorem half_zero {id : Nat} (h : Half s E id) (hid : id < s.blks.length) : Good (s.took id 0) E ∧ ∀ i, held (s.took id 0) i = if i = id then some [] else held s i := by
  have hs : ∀ i, i ≠ id → (s.took id 0).blks[i]? = s.blks[i]? := fun i hi => blks_set_get _ _ _ hi
  have hi' : (s.took id 0).blks[id]? = some ⟨true, 0, 0, 0, 0⟩ := by rw [← get_blks]; exact took_get_id _ _ hid
  refine ⟨(half_took h 0).good ⟨?_, h.heap, h.nodupF, ?_, ?_⟩, ?_⟩
  · intro i b hb hn
    by_cases c : i = id
    · subst c; rw [hi'] at hb; cases hb; exact .inr rfl
    · rw [hs i c] at hb; exact h.zero i b hb hn
  · intro x
    show x ∈ s.free ↔ _
    rw [h.free]
    constructor
    · rintro ⟨i, e, hi, hb⟩; exact ⟨i, e, by rw [hs i hi]; exact hb⟩
    · rintro ⟨i, e, hb⟩
      have : i ≠ id := by rintro rfl; rw [hi'] at hb; cases hb
      exact ⟨i, e, this, by rw [← hs i this]; exact hb⟩
  · show s.used + up8 0 = _
    rw [h.used, show up8 0 = 0 from rfl, Int.add_zero]
  · intro i
    by_cases c : i = id
    · rw [if_pos c, c]
      unfold held
      rw [hi']; rfl
    · rw [if_neg c]
      unfold held
      rw [hs i c]; rfl
end
end Go.Proofs.YtgkakflnmpoadaaGreatDoor.W
/- Package store: its faces over what all Ids hold: Take. -/
namespace Go.Proofs.YtgkakflnmpoadaaGreatDoor.W
open Go.ChangeShapes Go.WideShapes Go.RowKit Go.Shelf
set_option linter.unusedVariables false
def lenA : Option (List Nat) → Nat
  | some x => up8N x.length
  | none => 0
/-- the bytes of all, rounded up -/
def sumA (A : List (Option (List Nat))) : Nat := (A.map lenA).foldr (· + ·) 0
theorem sumA_cons (x : Option (List Nat)) (A : List (Option (List Nat))) : sumA (x :: A) = lenA x + sumA A := rfl
theorem sumA_set (A : List (Option (List Nat))) (i : Nat) (x : Option (List Nat)) (h : i < A.length) : sumA (A.set i x) + lenA A[i] = sumA A + lenA x := by
  induction A generalizing i with
  | nil => exact absurd h (by simp)
  | cons a A ih =>
    cases i with
    | zero => simp only [List.set_cons_zero, sumA_cons, List.getElem_cons_zero]; omega
    | succ i =>
      have := ih i (by simpa using h)
      simp only [List.set_cons_succ, sumA_cons, List.getElem_cons_succ]; omega
theorem sumA_snoc (A : List (Option (List Nat))) (x : Option (List Nat)) : sumA (A ++ [x]) = sumA A + lenA x := by
  induction A with
  | nil => simp [sumA]
  | cons a A ih => rw [List.cons_append, sumA_cons, sumA_cons, ih]; omega
/-- how a store lies whose Ids hold A; U: bytes at most, N: Ids at most -/
structure Fine (s : Sto) (E : List Ex) (A : List (Option (List Nat))) (U N : Nat) : Prop where
  good : Good s E
  all : All s A
  sum : sumE E = sumA A
  lens : ∀ e ∈ E, e.l ≤ 8388608
  row : s.row.length ≤ 2 * U + 64
  top : sumA A ≤ U
  num : A.length ≤ N
  u9 : U ≤ 100000000000
  n9 : N ≤ 100000000
def St (W : World) (S : Nat → Prop) (sb : Nat) (A : List (Option (List Nat))) (U N : Nat) : Prop := ∃ s E vr vb vf, Lay W sb vr vb vf s ∧ Own S sb vr vb vf ∧ Fine s E A U N
section
variable {s : Sto} {E : List Ex} {A : List (Option (List Nat))} {U N : Nat}
theorem ring_fit {t : Sto} (g : Ring t E) (hl : ∀ e ∈ E, e.l ≤ 8388608) (hr : t.row.length ≤ 1000000000000) (hb : t.blks.length ≤ 1000000000) (hu0 : 0 ≤ t.used) (hu1 : t.used ≤ 1000000000000) (ho : ∀ i b, t.blks[i]? = some b → i + 1 ∉ numE E → b.pos = 0 ∧ 0 ≤ b.len ∧ b.len ≤ 100000000) : Fit t := by
  refine ⟨hb, hr, g.byte, hu0, hu1, ?_⟩
  intro n b hb
  by_cases c : n ∈ numE E
  · obtain ⟨i, hi, e⟩ := List.mem_iff_getElem.1 c
    obtain ⟨h2, h3⟩ := numE_get (E := E) (i := i) (n := n) (by rw [List.getElem?_eq_getElem hi, e])
    have := g.get i _ (rg_get h2)
    rw [← h3, hb] at this
    cases this
    have h4 := g.lies.2.2 _ (rg_mem h2)
    unfold Ex.stop at h4
    have h5 : (rg E i).l ≤ 8388608 := by
      cases i with
      | zero => show (0 : Nat) ≤ _; omega
      | succ i => exact hl _ (rg_memE h2)
    refine ⟨?_, ?_, ?_, ?_⟩
    · show (0 : Int) ≤ ((rg E i).p : Nat); omega
    · show ((rg E i).p : Int) ≤ _; omega
    · show (0 : Int) ≤ ((rg E i).l : Nat); omega
    · show ((rg E i).l : Int) ≤ _; omega
  · have h0 : n ≠ 0 := by rintro rfl; exact c (List.mem_cons_self ..)
    obtain ⟨k, rfl⟩ : ∃ k, n = k + 1 := ⟨n - 1, by omega⟩
    rw [get_blks] at hb
    obtain ⟨a1, a2, a3⟩ := ho k b hb c
    exact ⟨by omega, by omega, a2, a3⟩
theorem Fine.used (f : Fine s E A U N) : s.used = (sumA A : Nat) := by rw [f.good.used]; exact congrArg _ f.sum
theorem Fine.fit (f : Fine s E A U N) : Fit s := by
  have h1 := f.row; have h2 := f.top; have h3 := f.num; have h4 := f.u9; have h5 := f.n9; have h6 := f.used; have h7 := f.all.1
  refine ring_fit f.good.rng f.lens (by omega) (by omega) (by omega) (by omega) ?_
  intro i b hb hn
  rcases f.good.zero i b hb hn with rfl | rfl
  · exact ⟨rfl, Int.le_refl _, by decide⟩
  · exact ⟨rfl, Int.le_refl _, by decide⟩
theorem all_put {s' : Sto} {id : Nat} {x : List Nat} {s1 : Sto} (h : All s A) (hid : id ≤ A.length) (hl : s'.blks.length = if id < A.length then A.length else A.length + 1) (hh : ∀ i, held s' i = if i = id then some x else held s i) : All s' (putA A id (some x)) := by
  unfold putA
  by_cases c : id < A.length
  · rw [if_pos c] at hl ⊢
    refine ⟨by rw [hl, List.length_set], fun i => ?_⟩
    rw [hh]
    by_cases e : i = id
    · subst e; rw [if_pos rfl, List.getElem?_set_self c]; rfl
    · rw [if_neg e, List.getElem?_set_ne (by omega)]; exact h.2 i
  · rw [if_neg c] at hl ⊢
    refine ⟨by rw [hl, List.length_append]; rfl, fun i => ?_⟩
    rw [hh]
    by_cases e : i = id
    · subst e; rw [if_pos rfl, show i = A.length by omega]; simp
    · rw [if_neg e, h.2 i]
      by_cases d : i < A.length
      · rw [List.getElem?_append_left d]
      · rw [List.getElem?_eq_none (by omega), List.getElem?_eq_none (by simp; omega)]
theorem sumA_put (A : List (Option (List Nat))) (x : List Nat) : sumA (putA A (leastA A) (some x)) = sumA A + up8N x.length := by
  unfold putA
  by_cases c : leastA A < A.length
  · rw [if_pos c]
    have h1 := sumA_set A (leastA A) (some x) c
    have h2 : A[leastA A] = none := by
      have := List.findIdx_getElem (w := c)
      exact Option.isNone_iff_eq_none.1 this
    rw [h2] at h1
    simpa [lenA] using h1
  · rw [if_neg c, sumA_snoc]; rfl
theorem putA_len (A : List (Option (List Nat))) (id : Nat) (x : Option (List Nat)) : (putA A id x).length = if id < A.length then A.length else A.length + 1 := by
  unfold putA; split <;> simp
end
end Go.Proofs.YtgkakflnmpoadaaGreatDoor.W
/- Package store: Take, the state behind leastId being told by a predicate. -/
namespace Go.Proofs.YtgkakflnmpoadaaGreatDoor.W
open Go.ChangeShapes Go.WideShapes Go.RowKit Go.Shelf
set_option linter.unusedVariables false
section
variable {W : World} {sb : Nat} {vr vb vf : Value} {s : Sto}
set_option maxHeartbeats 2000000 in
theorem take_g (n : Int) (u : Nat) (hn0 : 0 < n) (hn1 : n ≤ 8388608) (hu : up8 n = u) (id : Nat) (hid9 : id ≤ 100000000) (P : Sto → Prop) (hP : ∀ s1, P s1 → id < s1.blks.length ∧ s1.blks.length ≤ 100000000 ∧ 0 ≤ s1.used ∧ s1.used ≤ 100000000000) {S : Nat → Prop} (G : Sto → Sto → Nat → Nat → Nat → Prop)
    (cl : Calls Tryz.prog 214 #[.pointer (some ⟨sb, 0, none⟩)] W fun e w' => e = .returned (.int .i64 id) ∧ Upd S W w' ∧ ∃ s1, P s1 ∧ ∃ vr1 vb1 vf1, Lay w' sb vr1 vb1 vf1 s1 ∧ Own (Nx S W w') sb vr1 vb1 vf1)
    (hseek : ∀ s1, P s1 → ∀ W3 S3 vr3 vb3 vf3, Lay W3 sb vr3 vb3 vf3 (s1.took id n) → Own S3 sb vr3 vb3 vf3 → Calls Tryz.prog 260 #[.pointer (some ⟨sb, 0, none⟩), .int .i64 (u : Int)] W3 (SeekPost S3 W3 sb vb3 vf3 (id + 1) ⟨true, 0, n, 0, 0⟩ (G s1))) :
    Calls Tryz.prog 168 #[.pointer (some ⟨sb, 0, none⟩), .int .i64 n] W fun e w' => e = .returned (.tuple #[.int .i64 id, .int .i64 0]) ∧ Upd S W w' ∧ ∃ s1, P s1 ∧ ∃ s4 bk nx p, G s1 s4 bk nx p ∧ ∃ vr4 vb4 vf4, Lay w' sb vr4 vb4 vf4 (s4.laid (id + 1) bk nx p u) ∧ Own (Nx S W w') sb vr4 vb4 vf4 := by
  have hu1 : (u : Int) ≤ 8388616 := by unfold up8 at hu; omega
  have cu := fun w => roundUp_c n w (by omega) (by omega)
  rw [hu] at cu
  have cn := fun w => number_c id w (by omega) (by omega)
  go_enter Tryz.func168, Tryz.ntmps168
  go_upto_region 6 with (go_at_call 214; (with_reducible refine cl.mono ?_); rintro e W1 ⟨rfl, hU1, s1, hPs, vr1, vb1, vf1, hL1, hO1⟩; clear cl)
  obtain ⟨hid, hl1, hus0, hus1⟩ := hP s1 hPs
  clear hP
  obtain ⟨g, cap, hvb, hcap⟩ := own_slice hL1.blk (by omega)
  have c6 := hL1.cell 6
  simp [Sto.obj, hvb] at c6
  obtain ⟨b0, hb0⟩ : ∃ b0, s1.get (id + 1) = some b0 := ⟨s1.blks[id], by unfold Sto.get; rw [if_neg (by omega)]; exact List.getElem?_eq_getElem hid⟩
  have pt : Pt sb vb1 (id + 1) g (id * 5) := .inr ⟨by omega, by rw [hvb]; rfl, by simp⟩
  obtain ⟨a0, a1, a2, a3, a4⟩ := bcells hL1 hb0 pt
  have t0 := hL1.bthaw hb0 pt 0
  have t1 := hL1.bthaw hb0 pt 1
  have t2 := hL1.bthaw hb0 pt 2
  have t3 := hL1.bthaw hb0 pt 3
  have t4 := hL1.bthaw hb0 pt 4
  simp only [Nat.add_zero] at t0
  have i0 : (0 : Int) ≤ id := by omega
  have i1 : (id : Int) < s1.blks.length := by omega
  go_upto_region 7 with fail
  have hL2 := hL1.bfull hb0 pt ⟨true, 0, n, 0, 0⟩
  have hU2 := hU1.five (hO1.pt pt) (id * 5) (id * 5 + 1) (id * 5 + 2) (id * 5 + 3) (id * 5 + 4) (.bool true) (.int .i64 0) (.int .i64 n) (.int .i64 0) (.int .i64 0)
  have z2 : (((((W1.setCell ⟨g, id * 5, none⟩ (.bool true)).setCell ⟨g, id * 5 + 1, none⟩ (.int .i64 0)).setCell ⟨g, id * 5 + 2, none⟩ (.int .i64 n)).setCell ⟨g, id * 5 + 3, none⟩ (.int .i64 0)).setCell ⟨g, id * 5 + 4, none⟩ (.int .i64 0)).heap.size = W1.heap.size := by simp [World.setCell]
  clear t0 t1 t2 t3 t4 a0 a1 a2 a3 a4 c6
  dsimp only at hL2
  generalize World.setCell (World.setCell (World.setCell (World.setCell (World.setCell W1 _ _) _ _) _ _) _ _) _ _ = W2 at *
  have c8 := hL2.cell 8
  simp [Sto.obj, set_used] at c8
  have th8 := hL2.thaw 8
  have hw8 : IntKind.i64.wrap (s1.used + u) = s1.used + u := by rw [IntKind.wrap_i64]; omega
  have k8 : ∀ v : Value, (W2.drew.setCell ⟨sb, 8, none⟩ v).cell? ⟨sb, 8, none⟩ = some v := fun v => World.cell?_setCell_same' _ _ _ (by show (W2.cell? _).isSome = true; rw [c8]; rfl)
  have hcut : True := trivial
  go_region_with (go_at_call 211; (with_reducible refine (cu _).mono ?_); rintro e w' ⟨rfl, hw⟩; (have hw' := hw.symm); subst hw'; clear hw)
  all_goals (
    have hL3 : Lay (W2.setCell ⟨sb, 8, none⟩ (.int .i64 (s1.used + u))).drew sb vr1 vb1 vf1 (s1.took id n) := by
      refine (hL2.store (s' := s1.took id n) 8 _ ?_ ?_ ?_ ?_).drew
      · simp [Sto.obj, Sto.took, Sto.set, hu]
      · simp [Sto.took, Sto.set]
      · simp [Sto.took, Sto.set]
      · simp [Sto.took, Sto.set]
    have hU3 := (hU2.setCell (p := ⟨sb, 8, none⟩) (hO1.sb.on (Nat.le_of_eq z2.symm)) (.int .i64 (s1.used + u))).drew
    have z3 : (W2.setCell ⟨sb, 8, none⟩ (.int .i64 (s1.used + u))).drew.heap.size = W1.heap.size := by
      show (W2.setCell ⟨sb, 8, none⟩ (.int .i64 (s1.used + u))).heap.size = _
      simp [World.setCell, z2]
    clear c8 th8 k8 hL2 hU2 z2
    generalize World.drew (World.setCell W2 _ _) = W3 at *
    have hO3 : Own (Nx S W W3) sb vr1 vb1 vf1 := hO1.on (by omega)
    have gt : (s1.took id n).get (id + 1) = some ⟨true, 0, n, 0, 0⟩ := by
      unfold Sto.get Sto.took
      rw [if_neg (by omega)]
      simp [hid]
    have cy := lay_c hL3 (by simp [Sto.took]; omega) (id + 1) u ⟨true, 0, n, 0, 0⟩ gt hn0 (by dsimp only; omega) hu (G s1) (hseek s1 hPs W3 _ vr1 vb1 vf1 hL3 hO3)
    have hcast : ((id + 1 : Nat) : Int) = (id : Int) + 1 := by omega
    rw [hcast] at cy
    have HU := (show Hid _ from hU3)
    have hn0' : 0 < n := hn0
    clear hseek hL3 gt hL1 hO1 pt hb0 hU3
    go_wp2_with (first | (go_at_call 210; (with_reducible refine (cn _).mono ?_); rintro e w' ⟨rfl, hw⟩; (have hw' := hw.symm); subst hw'; clear hw) | (go_at_call 215; (with_reducible refine cy.mono ?_); rintro e W4 ⟨rfl, hU4, s4, bk, nx, p, hG, vr4, hL4, hO4⟩; clear cy))
    go_ret2
    exact ⟨rfl, HU.out.trans hU4, s1, hPs, s4, bk, nx, p, hG, vr4, _, _, hL4, hO4.mono (nx_nx HU.out.size hU4.size)⟩)
set_option maxHeartbeats 2000000 in
theorem take_g0 (id : Nat) (hid9 : id ≤ 100000000) (P : Sto → Prop) (hP : ∀ s1, P s1 → id < s1.blks.length ∧ s1.blks.length ≤ 100000000 ∧ 0 ≤ s1.used ∧ s1.used ≤ 100000000000) {S : Nat → Prop}
    (cl : Calls Tryz.prog 214 #[.pointer (some ⟨sb, 0, none⟩)] W fun e w' => e = .returned (.int .i64 id) ∧ Upd S W w' ∧ ∃ s1, P s1 ∧ ∃ vr1 vb1 vf1, Lay w' sb vr1 vb1 vf1 s1 ∧ Own (Nx S W w') sb vr1 vb1 vf1) :
    Calls Tryz.prog 168 #[.pointer (some ⟨sb, 0, none⟩), .int .i64 0] W fun e w' => e = .returned (.tuple #[.int .i64 id, .int .i64 0]) ∧ Upd S W w' ∧ ∃ s1, P s1 ∧ ∃ vr4 vb4 vf4, Lay w' sb vr4 vb4 vf4 (s1.took id 0) ∧ Own (Nx S W w') sb vr4 vb4 vf4 := by
  have cu := fun w => roundUp_c 0 w (by omega) (by omega)
  rw [show up8 0 = 0 from rfl] at cu
  go_enter Tryz.func168, Tryz.ntmps168
  go_upto_region 6 with (go_at_call 214; (with_reducible refine cl.mono ?_); rintro e W1 ⟨rfl, hU1, s1, hPs, vr1, vb1, vf1, hL1, hO1⟩; clear cl)
  obtain ⟨hid, hl1, hus0, hus1⟩ := hP s1 hPs
  clear hP
  obtain ⟨g, cap, hvb, hcap⟩ := own_slice hL1.blk (by omega)
  have c6 := hL1.cell 6
  simp [Sto.obj, hvb] at c6
  obtain ⟨b0, hb0⟩ : ∃ b0, s1.get (id + 1) = some b0 := ⟨s1.blks[id], by unfold Sto.get; rw [if_neg (by omega)]; exact List.getElem?_eq_getElem hid⟩
  have pt : Pt sb vb1 (id + 1) g (id * 5) := .inr ⟨by omega, by rw [hvb]; rfl, by simp⟩
  obtain ⟨a0, a1, a2, a3, a4⟩ := bcells hL1 hb0 pt
  have t0 := hL1.bthaw hb0 pt 0
  have t1 := hL1.bthaw hb0 pt 1
  have t2 := hL1.bthaw hb0 pt 2
  have t3 := hL1.bthaw hb0 pt 3
  have t4 := hL1.bthaw hb0 pt 4
  simp only [Nat.add_zero] at t0
  have i0 : (0 : Int) ≤ id := by omega
  have i1 : (id : Int) < s1.blks.length := by omega
  go_upto_region 7 with fail
  have hL2 := hL1.bfull hb0 pt ⟨true, 0, 0, 0, 0⟩
  have hU2 := hU1.five (hO1.pt pt) (id * 5) (id * 5 + 1) (id * 5 + 2) (id * 5 + 3) (id * 5 + 4) (.bool true) (.int .i64 0) (.int .i64 0) (.int .i64 0) (.int .i64 0)
  have z2 : (((((W1.setCell ⟨g, id * 5, none⟩ (.bool true)).setCell ⟨g, id * 5 + 1, none⟩ (.int .i64 0)).setCell ⟨g, id * 5 + 2, none⟩ (.int .i64 0)).setCell ⟨g, id * 5 + 3, none⟩ (.int .i64 0)).setCell ⟨g, id * 5 + 4, none⟩ (.int .i64 0)).heap.size = W1.heap.size := by simp [World.setCell]
  clear t0 t1 t2 t3 t4 a0 a1 a2 a3 a4 c6
  dsimp only at hL2
  generalize World.setCell (World.setCell (World.setCell (World.setCell (World.setCell W1 _ _) _ _) _ _) _ _) _ _ = W2 at *
  have c8 := hL2.cell 8
  simp [Sto.obj, set_used] at c8
  have th8 := hL2.thaw 8
  have hw8 : IntKind.i64.wrap s1.used = s1.used := by rw [IntKind.wrap_i64]; omega
  have k8 : ∀ v : Value, (W2.drew.setCell ⟨sb, 8, none⟩ v).cell? ⟨sb, 8, none⟩ = some v := fun v => World.cell?_setCell_same' _ _ _ (by show (W2.cell? _).isSome = true; rw [c8]; rfl)
  go_region_with (go_at_call 211; (with_reducible refine (cu _).mono ?_); rintro e w' ⟨rfl, hw⟩; (have hw' := hw.symm); subst hw'; clear hw)
  all_goals (
    have hL3 : Lay (W2.setCell ⟨sb, 8, none⟩ (.int .i64 s1.used)).drew sb vr1 vb1 vf1 (s1.took id 0) := by
      refine (hL2.store (s' := s1.took id 0) 8 _ ?_ ?_ ?_ ?_).drew
      · simp [Sto.obj, Sto.took, Sto.set, up8]
      · simp [Sto.took, Sto.set]
      · simp [Sto.took, Sto.set]
      · simp [Sto.took, Sto.set]
    have hU3 := (hU2.setCell (p := ⟨sb, 8, none⟩) (hO1.sb.on (Nat.le_of_eq z2.symm)) (.int .i64 s1.used)).drew
    have z3 : (W2.setCell ⟨sb, 8, none⟩ (.int .i64 s1.used)).drew.heap.size = W1.heap.size := by
      show (W2.setCell ⟨sb, 8, none⟩ (.int .i64 s1.used)).heap.size = _
      simp [World.setCell, z2]
    clear c8 th8 k8 hL2 hU2 z2
    generalize World.drew (World.setCell W2 _ _) = W3 at *
    have hO3 : Own (Nx S W W3) sb vr1 vb1 vf1 := hO1.on (by omega)
    go_wp2
    go_ret2
    exact ⟨rfl, hU3, s1, hPs, vr1, vb1, vf1, hL3, hO3⟩)
end
end Go.Proofs.YtgkakflnmpoadaaGreatDoor.W
/- Package store: Take over what all Ids hold. -/
namespace Go.Proofs.YtgkakflnmpoadaaGreatDoor.W
open Go.ChangeShapes Go.WideShapes Go.RowKit Go.Shelf
set_option linter.unusedVariables false
section
variable {W : World} {sb : Nat} {S : Nat → Prop} {A : List (Option (List Nat))} {U N : Nat}
/-- behind leastId -/
def Mid (s : Sto) (E : List Ex) (A : List (Option (List Nat))) (s1 : Sto) : Prop := Half s1 E (leastA A) ∧ (∀ i, held s1 i = held s i) ∧ s1.blks.length = (if leastA A < A.length then A.length else A.length + 1) ∧ s1.row = s.row ∧ s1.used = s.used
theorem least_c {s : Sto} {E : List Ex} {vr vb vf : Value} (hL : Lay W sb vr vb vf s) (hO : Own S sb vr vb vf) (f : Fine s E A U N) :
    Calls Tryz.prog 214 #[.pointer (some ⟨sb, 0, none⟩)] W fun e w' => e = .returned (.int .i64 (leastA A : Nat)) ∧ Upd S W w' ∧ ∃ s1, Mid s E A s1 ∧ ∃ vr1 vb1 vf1, Lay w' sb vr1 vb1 vf1 s1 ∧ Own (Nx S W w') sb vr1 vb1 vf1 := by
  have h3 := f.num; have h5 := f.n9; have h7 := f.all.1
  by_cases c : s.free = []
  · have hl := least_none f.all f.good c
    have hh := half_new f.all f.good c
    refine (leastId_new hL c (by omega) hO).mono ?_
    rintro e w' ⟨rfl, hU, vb', hL', hO'⟩
    refine ⟨by rw [hl, h7], hU, _, ⟨?_, hh.2, ?_, rfl, rfl⟩, vr, vb', vf, hL', hO'⟩
    · rw [hl, ← h7]; exact hh.1
    · rw [hl, if_neg (by omega)]
      show (s.blks ++ [noBlk]).length = _
      rw [List.length_append, h7]; rfl
  · have h0 : 0 < s.free.length := by
      cases e : s.free with
      | nil => exact absurd e c
      | cons a b => simp
    obtain ⟨hl, hlt⟩ := least_some f.all f.good h0
    have hfl : s.free.length ≤ s.blks.length := by
      have hs : s.free ⊆ (List.range s.blks.length).map (fun i : Nat => (i : Int)) := by
        intro x hx
        obtain ⟨i, e, hb⟩ := (f.good.free x).1 hx
        exact List.mem_map.2 ⟨i, List.mem_range.2 (List.getElem?_eq_some_iff.1 hb).1, e.symm⟩
      have := f.good.nodupF.length_le_of_subset hs
      simpa using this
    refine (leastId_pop hL (s.free.length - 1) (by omega) (by omega) f.good.heap hO).mono ?_
    rintro e w' ⟨rfl, hU, free', vf', hp', hh', hL', hO'⟩
    have hh := half_pop f.good hl hp' hh'
    refine ⟨by rw [hl], hU, _, ⟨hh.1, hh.2, ?_, rfl, rfl⟩, vr, vb, vf', hL', hO'.mono (fun k hk => .inl hk)⟩
    rw [if_pos hlt]; exact h7
theorem take_st (h : St W S sb A U N) (n : Nat) (hn : n ≤ 8388608) (hU : sumA A + up8N n ≤ U) (hN : A.length < N) :
    Calls Tryz.prog 168 #[.pointer (some ⟨sb, 0, none⟩), .int .i64 n] W fun e w' => e = .returned (.tuple #[.int .i64 (leastA A : Nat), .int .i64 0]) ∧ Upd S W w' ∧ St w' (Nx S W w') sb (putA A (leastA A) (some (List.replicate n 0))) U N := by
  obtain ⟨s, E, vr, vb, vf, hL, hO, f⟩ := h
  have h2 := f.top; have h3 := f.num; have h4 := f.u9; have h5 := f.n9; have h6 := f.used; have h7 := f.all.1; have h8 := f.row
  have hle : leastA A ≤ A.length := List.findIdx_le_length
  have cl := least_c hL hO f
  have hP : ∀ s1, Mid s E A s1 → leastA A < s1.blks.length ∧ s1.blks.length ≤ 100000000 ∧ 0 ≤ s1.used ∧ s1.used ≤ 100000000000 := by
    rintro s1 ⟨_, _, e, _, e2⟩
    rw [e2, h6, e]
    split <;> exact ⟨by omega, by omega, by omega, by omega⟩
  have hlenput : (putA A (leastA A) (some (List.replicate n 0))).length ≤ N := by rw [putA_len]; split <;> omega
  have hsumput : sumA (putA A (leastA A) (some (List.replicate n 0))) = sumA A + up8N n := by rw [sumA_put, List.length_replicate]
  by_cases c : n = 0
  · subst c
    refine (take_g0 (leastA A) (by omega) (Mid s E A) hP cl).mono ?_
    rintro e w' ⟨rfl, hU', s1, ⟨hh, hheld, hbl, hrow, hus⟩, vr4, vb4, vf4, hL4, hO4⟩
    have hid := (hP s1 ⟨hh, hheld, hbl, hrow, hus⟩).1
    have hz := half_zero hh hid
    refine ⟨rfl, hU', _, E, vr4, vb4, vf4, hL4, hO4, hz.1, ?_, ?_, f.lens, ?_, by omega, hlenput, h4, h5⟩
    · refine all_put (s := s) (s1 := s1) f.all hle ?_ ?_
      · show (s1.blks.set _ _).length = _
        rw [List.length_set]; exact hbl
      · intro i; rw [hz.2 i, hheld]; rfl
    · rw [hsumput, f.sum]; rfl
    · show s1.row.length ≤ _
      rw [hrow]; exact h8
  · have hu : up8 (n : Int) = (up8N n : Nat) := up8N_eq n
    refine (take_g (n : Int) (up8N n) (by omega) (by omega) hu (leastA A) (by omega) (Mid s E A) hP (fun s1 s4 bk nx q => skG (s1.took (leastA A) n) E (up8N n : Nat) s4 bk nx q) cl ?_).mono ?_
    · rintro s1 ⟨hh, hheld, hbl, hrow, hus⟩ W3 S3 vr3 vb3 vf3 hL3 hO3
      have hid := (hP s1 ⟨hh, hheld, hbl, hrow, hus⟩)
      have R := half_took hh (n : Int)
      have hus3 : (s1.took (leastA A) n).used = ((sumA A + up8N n : Nat) : Int) := by
        show s1.used + up8 (n : Int) = _
        rw [hu, hus, h6]; push_cast; rfl
      have fit : Fit (s1.took (leastA A) n) := by
        refine ring_fit R f.lens ?_ ?_ (by rw [hus3]; omega) (by rw [hus3]; omega) ?_
        · show s1.row.length ≤ _
          rw [hrow]; omega
        · show (s1.blks.set _ _).length ≤ _
          rw [List.length_set]; omega
        · intro i b hb hn'
          by_cases ci : i = leastA A
          · subst ci
            rw [← get_blks, took_get_id _ _ hid.1] at hb
            cases hb
            exact ⟨rfl, by show (0 : Int) ≤ (n : Int); omega, by show (n : Int) ≤ _; omega⟩
          · have hb' : s1.blks[i]? = some b := by
              rw [← hb]; exact (blks_set_get _ _ _ ci).symm
            rcases hh.zero i b hb' hn' with rfl | rfl
            · exact ⟨rfl, Int.le_refl _, by decide⟩
            · exact ⟨rfl, Int.le_refl _, by decide⟩
      obtain ⟨e, he, hhand⟩ := R.hand
      obtain ⟨hd, hdl, hde⟩ := List.mem_iff_getElem.1 he
      refine seek_c hL3 fit (ring_pk R) hd (by rw [numlen]; exact hdl) ?_ _ ?_ (took_get_id _ _ hid.1) hh.out hO3
      · rw [hhand, ← hde]
        congr 1
        exact (List.getElem_map ..).symm
      · rw [hus3, numlen, enE_sum, f.sum]; push_cast; omega
    · rintro e w' ⟨rfl, hU', s1, ⟨hh, hheld, hbl, hrow, hus⟩, s4, bk, nx, q, hG, vr4, vb4, vf4, hL4, hO4⟩
      have hid := (hP s1 ⟨hh, hheld, hbl, hrow, hus⟩).1
      obtain ⟨E', g', hd', hl', hs', hb', hr'⟩ := seekG_good hh hid (by omega) hG
      refine ⟨rfl, hU', _, E', vr4, vb4, vf4, hL4, hO4, g', ?_, ?_, ?_, ?_, by omega, hlenput, h4, h5⟩
      · refine all_put (s := s) (s1 := s1) f.all hle (hb'.trans hbl) ?_
        intro i; rw [hd' i, hheld]
      · rw [hsumput, hs', f.sum]
      · intro e he
        rcases hl' e he with h | ⟨x, hx, h⟩
        · omega
        · rw [← h]; exact f.lens x hx
      · refine Nat.le_trans hr' ?_
        rw [hrow, f.sum]; omega
end
end Go.Proofs.YtgkakflnmpoadaaGreatDoor.W
/- Package store: Give and Pack over what all Ids hold. -/
namespace Go.Proofs.YtgkakflnmpoadaaGreatDoor.W
open Go.ChangeShapes Go.WideShapes Go.RowKit Go.Shelf
set_option linter.unusedVariables false
section
variable {s : Sto} {E : List Ex}
theorem del_mem {k : Nat} (hk : k < E.length) (hd : ((ring E).map Ex.n).Nodup) (m : Nat) : m ∈ numE (E.eraseIdx k) ↔ m ∈ numE E ∧ m ≠ nm E (k + 1) := by
  have hk1 : k + 1 < (ring E).length := by rw [ring_len]; omega
  constructor
  · intro h
    obtain ⟨i, hi, e⟩ := List.mem_iff_getElem.1 h
    obtain ⟨h2, h3⟩ := numE_get (E := E.eraseIdx k) (i := i) (n := m) (by rw [List.getElem?_eq_getElem hi, e])
    have h4 := rg_get h2
    rw [del_get hk] at h4
    by_cases c : i ≤ k
    · rw [if_pos c] at h4
      have h5 := (List.getElem?_eq_some_iff.1 h4).1
      have h6 := rg_of h4
      rw [h3, ← h6]
      refine ⟨numE_mem h5, ?_⟩
      rw [nm_rg hk1]
      intro e2
      have := rg_inj hd h5 hk1 e2
      omega
    · rw [if_neg c] at h4
      have h5 := (List.getElem?_eq_some_iff.1 h4).1
      have h6 := rg_of h4
      rw [h3, ← h6]
      refine ⟨numE_mem h5, ?_⟩
      rw [nm_rg hk1]
      intro e2
      have := rg_inj hd h5 hk1 e2
      omega
  · rintro ⟨h, hne⟩
    obtain ⟨i, hi, e⟩ := List.mem_iff_getElem.1 h
    obtain ⟨h2, h3⟩ := numE_get (E := E) (i := i) (n := m) (by rw [List.getElem?_eq_getElem hi, e])
    have hik : i ≠ k + 1 := by rintro rfl; exact hne (by rw [nm_rg hk1]; exact h3)
    rw [h3]
    by_cases c : i ≤ k
    · exact List.mem_map_of_mem (List.mem_of_getElem? (i := i) (by rw [del_get hk, if_pos c]; exact rg_get h2))
    · exact List.mem_map_of_mem (List.mem_of_getElem? (i := i - 1) (by rw [del_get hk, if_neg (by omega), show i - 1 + 1 = i by omega]; exact rg_get h2))
theorem sumE_del {k : Nat} (hk : k < E.length) : sumE (E.eraseIdx k) + up8N (rg E (k + 1)).l = sumE E := by
  induction E generalizing k with
  | nil => exact absurd hk (by simp)
  | cons a E ih =>
    cases k with
    | zero =>
      show sumE E + up8N a.l = up8N a.l + sumE E
      omega
    | succ k =>
      have := ih (k := k) (by simpa using hk)
      have h1 : rg (a :: E) (k + 1 + 1) = rg E (k + 1) := rfl
      have h2 : sumE ((a :: E).eraseIdx (k + 1)) = up8N a.l + sumE (E.eraseIdx k) := rfl
      have h3 : sumE (a :: E) = up8N a.l + sumE E := rfl
      rw [h1, h2, h3]; omega
/-- blocks but for where they lead -/
def Like (s t : Sto) : Prop := t.row = s.row ∧ ∀ m b, s.get m = some b → ∃ b', t.get m = some b' ∧ b'.live = b.live ∧ b'.pos = b.pos ∧ b'.len = b.len
theorem gone_good {t : Sto} {E' : List Ex} {id u : Nat} {free' : List Int} (g : Good s E) (R : Ring t E') (hm : ∀ m, m ∈ numE E' ↔ m ∈ numE E ∧ m ≠ id + 1) (hid : id < s.blks.length) (hlive : ∃ b, s.blks[id]? = some b ∧ b.live = true) (hlen : t.blks.length = s.blks.length) (hlike : Like s t) (hget : ∀ m, m ∉ numE E → t.get m = s.get m) (hp : free'.Perm (s.free ++ [(id : Int)])) (hh : IsHeap free' free'.length) (hsum : sumE E' + u = sumE E) :
    Good (({ t with blks := t.blks.set id noBlk, used := s.used - u } : Sto).fr free') E' ∧ ∀ i, held (({ t with blks := t.blks.set id noBlk, used := s.used - u } : Sto).fr free') i = if i = id then none else held s i := by
  obtain ⟨b0, hb0, hl0⟩ := hlive
  have hidf : (id : Int) ∉ s.free := by
    rw [g.free]
    rintro ⟨i, e, hb⟩
    have : id = i := by omega
    subst this
    rw [hb0] at hb; cases hb; cases hl0
  have hs : ∀ i, i ≠ id → (t.blks.set id noBlk)[i]? = t.blks[i]? := fun i hi => blks_set_get _ _ _ hi
  have hi' : (t.blks.set id noBlk)[id]? = some noBlk := List.getElem?_set_self (by omega)
  have hout : id + 1 ∉ numE E' := fun h => ((hm _).1 h).2 rfl
  have hzero : ∀ i b, i ≠ id → t.blks[i]? = some b → i + 1 ∉ numE E' → s.blks[i]? = some b ∧ (b = noBlk ∨ b = ⟨true, 0, 0, 0, 0⟩) := by
    intro i b hi hb hn
    have hn' : i + 1 ∉ numE E := fun h => hn ((hm _).2 ⟨h, by omega⟩)
    have e := hget (i + 1) hn'
    rw [get_blks, get_blks] at e
    rw [e] at hb
    exact ⟨hb, g.zero i b hb hn'⟩
  refine ⟨Ring.good (R.congr ?_ rfl rfl) ⟨?_, hh, ?_, ?_, ?_⟩, ?_⟩
  · intro m hm'
    by_cases c : m = 0
    · rw [c]; rfl
    · obtain ⟨k, rfl⟩ : ∃ k, m = k + 1 := ⟨m - 1, by omega⟩
      rw [get_blks, get_blks]
      exact hs k (by rintro rfl; exact hout hm')
  · intro i b hb hn
    by_cases c : i = id
    · subst c
      change (t.blks.set i noBlk)[i]? = _ at hb
      rw [hi'] at hb; cases hb; exact .inl rfl
    · change (t.blks.set id noBlk)[i]? = _ at hb
      rw [hs i c] at hb
      exact (hzero i b c hb hn).2
  · exact hp.nodup_iff.2 (List.nodup_append.2 ⟨g.nodupF, by simp, by rintro a ha b hb; simp at hb; rintro rfl; rw [hb] at ha; exact hidf ha⟩)
  · intro x
    show x ∈ free' ↔ ∃ i : Nat, x = i ∧ (t.blks.set id noBlk)[i]? = some noBlk
    rw [hp.mem_iff, List.mem_append, List.mem_singleton, g.free]
    constructor
    · rintro (⟨i, e, hb⟩ | e)
      · have hi : i ≠ id := by rintro rfl; rw [hb0] at hb; cases hb; cases hl0
        refine ⟨i, e, ?_⟩
        rw [hs i hi]
        by_cases c : i + 1 ∈ numE E
        · obtain ⟨b, e2, l2⟩ := ring_live g.rng i c
          rw [hb] at e2; cases e2; cases l2
        · have e3 := hget (i + 1) c
          rw [get_blks, get_blks] at e3
          rw [e3]; exact hb
      · exact ⟨id, e, hi'⟩
    · rintro ⟨i, e, hb⟩
      by_cases c : i = id
      · right; rw [e, c]
      · left
        rw [hs i c] at hb
        by_cases c2 : i + 1 ∈ numE E'
        · obtain ⟨b, e2, l2⟩ := ring_live R i c2
          rw [hb] at e2; cases e2; cases l2
        · exact ⟨i, e, (hzero i _ c hb c2).1⟩
  · show s.used - u = _
    rw [g.used]
    change ((sumE E : Nat) : Int) - u = ((sumE E' : Nat) : Int)
    omega
  · intro i
    by_cases c : i = id
    · rw [if_pos c, c]
      unfold held
      show (match (t.blks.set id noBlk)[id]? with | some b => _ | none => _) = _
      rw [hi']; rfl
    · rw [if_neg c]
      unfold held
      show (match (t.blks.set id noBlk)[i]? with | some b => if b.live = true then some (seg t.row b.pos.toNat b.len.toNat) else none | none => none) = _
      rw [hs i c, hlike.1]
      cases e : s.blks[i]? with
      | none =>
        have : t.blks[i]? = none := by
          rw [List.getElem?_eq_none_iff] at e ⊢; omega
        rw [this]
      | some b =>
        obtain ⟨b', e1, l1, l2, l3⟩ := hlike.2 (i + 1) b (by rw [get_blks]; exact e)
        rw [get_blks] at e1
        rw [e1]
        simp only [l1, l2, l3]
theorem unlinked_like {n bk nx : Nat} {bb bx : Blk} (hb : s.get bk = some bb) (hx : s.get nx = some bx) : Like s (s.unlinked n bk nx) := by
  refine ⟨unlinked_row _ _ _, fun m b h => ?_⟩
  rw [unlinked_get hb hx]
  by_cases c1 : m = nx
  · subst c1
    rw [if_pos rfl]
    rw [hx] at h; cases h
    by_cases c2 : m = bk
    · subst c2
      rw [hb] at hx; cases hx
      exact ⟨_, rfl, by simp, by simp, by simp⟩
    · exact ⟨_, rfl, by simp [c2], by simp [c2], by simp [c2]⟩
  · rw [if_neg c1]
    by_cases c2 : m = bk
    · subst c2
      rw [hb] at h; cases h
      exact ⟨_, if_pos rfl, rfl, rfl, rfl⟩
    · exact ⟨b, by rw [if_neg c2]; exact h, rfl, rfl, rfl⟩
end
section
variable {W : World} {sb : Nat} {S : Nat → Prop} {A : List (Option (List Nat))} {U N : Nat}
end
end Go.Proofs.YtgkakflnmpoadaaGreatDoor.W
/- Package store: Give, Len, Used, Load, Save over what all Ids hold. -/
namespace Go.Proofs.YtgkakflnmpoadaaGreatDoor.W
open Go.ChangeShapes Go.WideShapes Go.RowKit Go.Shelf
set_option linter.unusedVariables false
section
variable {s : Sto} {E : List Ex} {A : List (Option (List Nat))} {U N : Nat}
/-- what an Id holds, and its block -/
theorem held_some {id : Nat} {x : List Nat} (h : held s id = some x) : ∃ b, s.blks[id]? = some b ∧ b.live = true ∧ x = seg s.row b.pos.toNat b.len.toNat := by
  unfold held at h
  cases e : s.blks[id]? with
  | none => rw [e] at h; cases h
  | some b =>
    rw [e] at h
    simp only [] at h
    by_cases c : b.live = true
    · rw [if_pos c] at h; cases h; exact ⟨b, rfl, c, rfl⟩
    · rw [if_neg c] at h; cases h
theorem ext_of {id : Nat} {b : Blk} (h : s.blks[id]? = some b) (hl : b.live = true) : s.ext (id : Int) = some b := by
  unfold Sto.ext
  rw [if_neg (by omega), Int.toNat_natCast, h]
  simp [hl]
/-- where an Id's bytes lie: in the ring, or it has none -/
theorem fine_at (g : Good s E) {id : Nat} {b : Blk} (hb : s.blks[id]? = some b) (hl : b.live = true) : (∃ k, k + 1 < (ring E).length ∧ id + 1 = (rg E (k + 1)).n ∧ b = blkOf E (k + 1) (rg E (k + 1))) ∨ (id + 1 ∉ numE E ∧ b = ⟨true, 0, 0, 0, 0⟩) := by
  by_cases c : id + 1 ∈ numE E
  · obtain ⟨k, hk, hki⟩ := mem_rg c (by omega)
    refine .inl ⟨k, hk, hki, ?_⟩
    have := g.get (k + 1) _ (rg_get hk)
    rw [← hki, get_blks, hb] at this
    exact Option.some.inj this
  · refine .inr ⟨c, ?_⟩
    rcases g.zero id b hb c with rfl | rfl
    · cases hl
    · rfl
/-- its place and its bytes, in the row -/
theorem fine_in (g : Good s E) {id : Nat} {b : Blk} (hb : s.blks[id]? = some b) (hl : b.live = true) : ∃ p l : Nat, b.pos = p ∧ b.len = l ∧ p + l ≤ s.row.length := by
  rcases fine_at g hb hl with ⟨k, hk, _, rfl⟩ | ⟨_, rfl⟩
  · have h1 := g.lies.2.2 _ (rg_mem hk)
    have h2 := up8N_ge (rg E (k + 1)).l
    unfold Ex.stop at h1
    exact ⟨_, _, rfl, rfl, by omega⟩
  · exact ⟨0, 0, rfl, rfl, by omega⟩
end
section
variable {W : World} {sb : Nat} {S : Nat → Prop} {A : List (Option (List Nat))} {U N : Nat}
theorem give_st (h : St W S sb A U N) (id : Nat) (x : List Nat) (hx : A[id]? = some (some x)) : Calls Tryz.prog 164 #[.pointer (some ⟨sb, 0, none⟩), .int .i64 id] W fun e w' => e = .returned (.int .i64 0) ∧ Upd S W w' ∧ St w' (Nx S W w') sb (A.set id none) U N := by
  obtain ⟨s, E, vr, vb, vf, hL, hO, f⟩ := h
  have h2 := f.top; have h3 := f.num; have h4 := f.u9; have h5 := f.n9; have h6 := f.used; have h7 := f.all.1; have h8 := f.row
  have hidA := (List.getElem?_eq_some_iff.1 hx).1
  have hAx : A[id] = some x := (List.getElem?_eq_some_iff.1 hx).2
  have hheld : held s id = some x := by rw [f.all.2, hx]; rfl
  obtain ⟨b, hb, hlv, hxs⟩ := held_some hheld
  obtain ⟨p, l, hp, hl, hin⟩ := fine_in f.good hb hlv
  have hxl : x.length = l := by rw [hxs, hp, hl, Int.toNat_natCast, Int.toNat_natCast]; exact seg_len _ _ _ hin
  have hu : up8 b.len = (up8N l : Nat) := by rw [hl]; exact up8N_eq l
  have hsA := sumA_set A id none hidA
  rw [hAx] at hsA
  change _ + up8N x.length = _ + 0 at hsA
  rw [hxl] at hsA
  have hfl : s.free.length ≤ s.blks.length := by
    have hs : s.free ⊆ (List.range s.blks.length).map (fun i : Nat => (i : Int)) := by
      intro x hx
      obtain ⟨i, e, hb⟩ := (f.good.free x).1 hx
      exact List.mem_map.2 ⟨i, List.mem_range.2 (List.getElem?_eq_some_iff.1 hb).1, e.symm⟩
    have := f.good.nodupF.length_le_of_subset hs
    simpa using this
  have hl8 : l ≤ 8388608 := by
    rcases fine_at f.good hb hlv with ⟨k, hk, _, e⟩ | ⟨_, e⟩
    · have h1 : b.len = ((rg E (k + 1)).l : Nat) := by rw [e]; rfl
      have := f.lens _ (rg_memE hk)
      omega
    · have : b.len = 0 := by rw [e]
      omega
  have fin : ∀ (t : Sto) (E' : List Ex) (w' : World) (free' : List Int) (vf' : Value), Ring t E' → (∀ m, m ∈ numE E' ↔ m ∈ numE E ∧ m ≠ id + 1) → t.blks.length = s.blks.length → Like s t → (∀ m, m ∉ numE E → t.get m = s.get m) → sumE E' + up8N l = sumE E → (∀ e ∈ E', e ∈ E) → free'.Perm (s.free ++ [(id : Int)]) → IsHeap free' free'.length → Lay w' sb vr vb vf' (({ t with blks := t.blks.set id noBlk, used := s.used - (up8N l : Nat) } : Sto).fr free') → Own (Nx S W w') sb vr vb vf' → St w' (Nx S W w') sb (A.set id none) U N := by
    intro t E' w' free' vf' R hm hlen hlike hget hsum hsub hpm hhp hL' hO'
    obtain ⟨g', hd'⟩ := gone_good f.good R hm (by omega) ⟨b, hb, hlv⟩ hlen hlike hget hpm hhp hsum
    refine ⟨_, E', vr, vb, vf', hL', hO', g', ⟨?_, ?_⟩, ?_, ?_, ?_, by omega, by rw [List.length_set]; exact h3, h4, h5⟩
    · show (t.blks.set id noBlk).length = _
      rw [List.length_set, List.length_set, hlen, h7]
    · intro i
      rw [hd' i]
      by_cases c : i = id
      · rw [if_pos c, c, List.getElem?_set_self hidA]; rfl
      · rw [if_neg c, List.getElem?_set_ne (by omega)]; exact f.all.2 i
    · have := f.sum; omega
    · intro e he; exact f.lens e (hsub e he)
    · show t.row.length ≤ _
      rw [hlike.1]; exact h8
  rcases fine_at f.good hb hlv with ⟨k, hk, hki, hbk⟩ | ⟨hno, hb0⟩
  · have hkE : k < E.length := by rw [ring_len] at hk; omega
    have hkl : k < (ring E).length := by omega
    have hnk : nm E (k + 1) = id + 1 := by rw [nm_rg hk]; exact hki.symm
    have hll : (rg E (k + 1)).l = l := by
      have h1 : b.len = ((rg E (k + 1)).l : Nat) := by rw [hbk]; rfl
      omega
    have hlpos : 0 < l := by rw [← hll]; exact (f.good.lies.2.1 _ (rg_memE hk)).2.1
    obtain ⟨bb, gb⟩ : ∃ bb, s.get (nm E k) = some bb := ⟨_, by rw [nm_rg hkl]; exact f.good.get k _ (rg_get hkl)⟩
    obtain ⟨bx, gx⟩ : ∃ bx, s.get (nm E (k + 2)) = some bx := by
      by_cases c : k + 2 < (ring E).length
      · exact ⟨_, by rw [nm_rg c]; exact f.good.get (k + 2) _ (rg_get c)⟩
      · rw [nm_out (by omega)]; exact ⟨s.head, rfl⟩
    have hbb : b.back = (nm E k : Nat) := by rw [hbk, blkOf_nm, if_neg (by omega)]; rfl
    have hbn : b.next = (nm E (k + 2) : Nat) := by rw [hbk, blkOf_nm]
    have cu := unlink_c hL (by omega) (id + 1) (nm E k) (nm E (k + 2)) b bb bx (by rw [get_blks]; exact hb) hbb hbn gb gx hO
    have RU := ring_unlinked f.good.rng hkE
    rw [hnk] at RU
    refine (give_c hL (by omega) id (up8N l) b (ext_of hb hlv) (by omega) (by omega) hu (by omega) (by omega) (by omega) f.good.heap (s.unlinked (id + 1) (nm E k) (nm E (k + 2))) (unlinked_len _ _ _) (unlinked_free _ _ _) (unlinked_used _ _ _) hO (by omega) (fun _ => cu)).mono ?_
    rintro e w' ⟨rfl, hU', free', vf', hpm, hhp, hL', hO'⟩
    refine ⟨rfl, hU', fin _ _ w' free' vf' RU ?_ (unlinked_len _ _ _) (unlinked_like gb gx) ?_ ?_ ?_ hpm hhp hL' hO'⟩
    · intro m
      rw [del_mem hkE f.good.nodup, hnk]
    · intro m hm
      have h0 : 0 ∈ numE E := List.mem_cons_self ..
      have m1 : nm E k ∈ numE E := by rw [nm_rg hkl]; exact numE_mem hkl
      have m2 : nm E (k + 2) ∈ numE E := by
        by_cases c : k + 2 < (ring E).length
        · rw [nm_rg c]; exact numE_mem c
        · rw [nm_out (by omega)]; exact h0
      rw [unlinked_get gb gx, if_neg (by rintro rfl; exact hm m2), if_neg (by rintro rfl; exact hm m1)]
    · rw [← hll]; exact sumE_del hkE
    · intro e he; exact List.mem_of_mem_eraseIdx he
  · have hl0 : l = 0 := by
      have : b.len = 0 := by rw [hb0]
      omega
    refine (give_c hL (by omega) id (up8N l) b (ext_of hb hlv) (by omega) (by omega) hu (by omega) (by omega) (by omega) f.good.heap s rfl rfl rfl hO (fun _ => rfl) (fun hh => absurd hh (by omega))).mono ?_
    rintro e w' ⟨rfl, hU', free', vf', hpm, hhp, hL', hO'⟩
    refine ⟨rfl, hU', fin _ E w' free' vf' f.good.rng ?_ rfl ⟨rfl, fun m b h => ⟨b, h, rfl, rfl, rfl⟩⟩ (fun _ _ => rfl) ?_ (fun _ h => h) hpm hhp hL' hO'⟩
    · intro m
      exact ⟨fun h => ⟨h, by rintro rfl; exact hno h⟩, fun h => h.1⟩
    · rw [hl0]; rfl
theorem seg_seg (row : List Nat) (p l o w : Nat) (h : o + w ≤ l) : seg (seg row p l) o w = seg row (p + o) w :=
  seg_ext (fun i hi => by rw [seg_get _ _ _ _ (by omega), Nat.add_assoc])
theorem load_st (h : St W S sb A U N) (id : Nat) (x : List Nat) (hx : A[id]? = some (some x)) (o wd : Nat) (hw : wd = 1 ∨ wd = 2 ∨ wd = 4 ∨ wd = 8) (ha : o % wd = 0) (ho : o + wd ≤ x.length) : Calls Tryz.prog 187 #[.pointer (some ⟨sb, 0, none⟩), .int .i64 id, .int .i64 o, .int .i64 wd] W fun e w' => e = .returned (.tuple #[.int .u64 (leN (seg x o wd)), .int .i64 0]) ∧ Below W.heap.size W w' := by
  obtain ⟨s, E, vr, vb, vf, hL, hO, f⟩ := h
  have hheld : held s id = some x := by rw [f.all.2, hx]; rfl
  obtain ⟨b, hb, hlv, hxs⟩ := held_some hheld
  obtain ⟨p, l, hp, hl, hin⟩ := fine_in f.good hb hlv
  have hxl : x = seg s.row p l := by rw [hxs, hp, hl, Int.toNat_natCast, Int.toNat_natCast]
  have hxl2 : x.length = l := by rw [hxl]; exact seg_len _ _ _ hin
  have := load_ok hL f.fit id wd b (ext_of hb hlv) hw o p hp (by omega) (by omega) (by omega)
  rw [hxl, seg_seg _ _ _ _ _ (by omega)]
  exact this
end
end Go.Proofs.YtgkakflnmpoadaaGreatDoor.W
