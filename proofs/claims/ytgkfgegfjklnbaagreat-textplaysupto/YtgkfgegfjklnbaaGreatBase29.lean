import Derived.Test.YtgkfgegfjklnbaaGreatBase27
import Derived.Test.YtgkfgegfjklnbaaGreatBase20
import Derived.Test.YtgkfgegfjklnbaaGreatBase28
import Derived.Test.YtgkfgegfjklnbaaGreatBase22
import Derived.Test.YtgkfgegfjklnbaaGreatBase26
/- Steps of statements over a heap of their own: a view is put, what is reached is left; bytes and words that are made. -/
namespace Go.Proofs.YtgkfgegfjklnbaaGreat.W
open Go.ChangeShapes Go.WideShapes Go.RowKit Go.Shelf
set_option linter.unusedVariables false
section
variable {W0 W W1 W' : World} {hb : Nat} {H : List (Option Hc)} {u : Nat} {K K' : Nat → Prop}
end
end Go.Proofs.YtgkfgegfjklnbaaGreat.W
/- Cells that refer to none, some of them kept: what is reached, what is left, what fits. -/
namespace Go.Proofs.YtgkfgegfjklnbaaGreat.W
open Go.ChangeShapes Go.WideShapes Go.RowKit Go.Shelf
set_option linter.unusedVariables false
/-- no cell refers to another one; ids are cells, each once -/
structure Kp (H : List (Option Hc)) (ids : List Nat) : Prop where
  leaf : ∀ (i : Nat) (c : Hc), H[i]? = some (some c) → ∀ w ∈ c.succ, w = 0
  live : ∀ i ∈ ids, ∃ c, H[i]? = some (some c)
  nod : ids.Nodup
  len : H.length ≤ 1000000
/-- what they need -/
def idsum (H : List (Option Hc)) (ids : List Nat) : Nat := (ids.map (fun i => needO ((H[i]?).getD none))).foldr (· + ·) 0
theorem idsum_cons (H : List (Option Hc)) (i : Nat) (ids : List Nat) : idsum H (i :: ids) = needO ((H[i]?).getD none) + idsum H ids := rfl
theorem idsum_snoc (H : List (Option Hc)) (ids : List Nat) (i : Nat) : idsum H (ids ++ [i]) = idsum H ids + needO ((H[i]?).getD none) := by
  induction ids with
  | nil => simp [idsum]
  | cons a r ih => rw [List.cons_append, idsum_cons, idsum_cons, ih]; omega
theorem idsum_same {H H' : List (Option Hc)} {ids : List Nat} (h : ∀ i ∈ ids, H'[i]? = H[i]?) : idsum H' ids = idsum H ids := by
  induction ids with
  | nil => rfl
  | cons a r ih => rw [idsum_cons, idsum_cons, h a (by simp), ih (fun i hi => h i (by simp [hi]))]
theorem bools_false {R : List Bool} {n : Nat} (hl : R.length = n) (h : ∀ i : Nat, ¬ R[i]? = some true) : R = List.replicate n false := by
  apply List.ext_getElem?
  intro i
  by_cases hi : i < n
  · rw [List.getElem?_replicate, if_pos hi]
    have e : R[i]? = some R[i] := List.getElem?_eq_getElem (by omega)
    cases hx : R[i] with
    | true => exact absurd (by rw [e, hx]) (h i)
    | false => rw [e, hx]
  · rw [List.getElem?_eq_none (by omega), List.getElem?_eq_none (by simp; omega)]
theorem needR_ids (H : List (Option Hc)) (ids : List Nat) (hn : ids.Nodup) (R : List Bool) (hl : R.length = H.length) (hR : ∀ i : Nat, R[i]? = some true ↔ i ∈ ids) : needR H R = idsum H ids := by
  induction ids generalizing R with
  | nil =>
    rw [bools_false hl (fun i e => by have := (hR i).1 e; cases this)]
    exact needR_false H _
  | cons a r ih =>
    have hn' := List.nodup_cons.1 hn
    have ha := (hR a).2 (by simp)
    have hal : a < R.length := (List.getElem?_eq_some_iff.1 ha).1
    have e1 : (R.set a false).set a true = R := by
      apply List.ext_getElem?
      intro i
      rw [List.set_set]
      by_cases h : i = a
      · subst h; rw [List.getElem?_set_self hal, ha]
      · rw [List.getElem?_set_ne (fun e => h e.symm)]
    have hs : ∀ i : Nat, (R.set a false)[i]? = some true ↔ i ∈ r := by
      intro i
      by_cases h : i = a
      · subst h
        rw [List.getElem?_set_self hal]
        simp [hn'.1]
      · rw [List.getElem?_set_ne (fun e => h e.symm), hR i]
        simp [h]
    have ih' := ih hn'.2 (R.set a false) (by rw [List.length_set]; exact hl) hs
    have hH : H[a]? = some H[a] := List.getElem?_eq_getElem (by omega)
    have := needR_set H (R.set a false) a H[a] (by rw [List.length_set]; exact hl) hH (List.getElem?_set_self hal)
    rw [e1, ih'] at this
    rw [this, idsum_cons, hH]
    simp only [Option.getD_some]
    omega
section
variable {H : List (Option Hc)} {ids : List Nat} {u : Nat}
theorem Kp.lt (k : Kp H ids) {i : Nat} (hi : i ∈ ids) : i < H.length := by
  obtain ⟨c, hc⟩ := k.live i hi
  exact (List.getElem?_eq_some_iff.1 hc).1
theorem Kp.rch (k : Kp H ids) (ex : List Nat) (hex : ∀ w ∈ ex, w = 0) (i : Nat) : Rch H (ids.map hw ++ ex) i ↔ i ∈ ids := by
  constructor
  · intro h
    induction h with
    | root w i hw' hh =>
      rcases List.mem_append.1 hw' with hw' | hw'
      · obtain ⟨j, hj, rfl⟩ := List.mem_map.1 hw'
        obtain ⟨c, hc⟩ := k.live j hj
        rw [hit_hw (by have := k.lt hj; have := k.len; omega) hc] at hh
        injection hh with hh
        rw [← hh]; exact hj
      · rw [hex w hw', hit_zero] at hh; cases hh
    | step j i w c _ hc hw' hh _ => rw [k.leaf j c hc w hw', hit_zero] at hh; cases hh
  · intro h
    obtain ⟨c, hc⟩ := k.live i h
    exact .root (hw i) i (List.mem_append_left _ (List.mem_map_of_mem h)) (hit_hw (by have := k.lt h; have := k.len; omega) hc)
theorem Kp.need (k : Kp H ids) (ex : List Nat) (hex : ∀ w ∈ ex, w = 0) : needR H (rchB H (ids.map hw ++ ex)) = idsum H ids :=
  needR_ids H ids k.nod _ (rchB_len H _) (fun i => (rchB_get H _ i).trans (k.rch ex hex i))
theorem Kp.reach (k : Kp H ids) : reachN H (ids.map hw) = idsum H ids := by
  have := k.need [] (by simp)
  rw [List.append_nil] at this
  exact this
theorem Kp.le (k : Kp H ids) : idsum H ids ≤ sumH H := by
  rw [← k.reach]; exact needR_le H _
theorem Kp.zip (k : Kp H ids) (ex : List Nat) (hex : ∀ w ∈ ex, w = 0) : Kp (zipK H (rchB H (ids.map hw ++ ex))) ids ∧ (∀ i ∈ ids, (zipK H (rchB H (ids.map hw ++ ex)))[i]? = H[i]?) ∧ sumH (zipK H (rchB H (ids.map hw ++ ex))) = idsum H ids ∧ (zipK H (rchB H (ids.map hw ++ ex))).length = H.length := by
  have hl := zipK_len H _ (rchB_len H (ids.map hw ++ ex))
  have hs : ∀ i ∈ ids, (zipK H (rchB H (ids.map hw ++ ex)))[i]? = H[i]? := by
    intro i hi
    rw [zipK_get H _ (rchB_len H _) i (k.lt hi)]
    have hr := (rchB_get H (ids.map hw ++ ex) i).2 ((k.rch ex hex i).2 hi)
    rw [if_pos (by rw [List.getD_eq_getElem?_getD, hr]; rfl)]
  refine ⟨⟨?_, ?_, k.nod, by rw [hl]; exact k.len⟩, hs, by rw [zipK_sum]; exact k.need ex hex, hl⟩
  · intro i c hc
    have hi : i < H.length := by have := (List.getElem?_eq_some_iff.1 hc).1; omega
    rw [zipK_get H _ (rchB_len H _) i hi] at hc
    split at hc
    · exact k.leaf i c hc
    · cases hc
  · intro i hi
    rw [hs i hi]; exact k.live i hi
theorem Kp.room (k : Kp H ids) (c : Hc) (hc : ∀ w ∈ c.seeds, w = 0) : Kp (roomH H u c (ids.map hw)) ids ∧ (∀ i ∈ ids, (roomH H u c (ids.map hw))[i]? = H[i]?) ∧ (sumH (roomH H u c (ids.map hw)) + c.need ≤ u ↔ idsum H ids + c.need ≤ u) ∧ (roomH H u c (ids.map hw)).length = H.length := by
  unfold roomH
  have hle := k.le
  split
  · exact ⟨k, fun _ _ => rfl, ⟨fun _ => by omega, fun _ => by assumption⟩, rfl⟩
  · obtain ⟨z1, z2, z3, z4⟩ := k.zip c.seeds hc
    exact ⟨z1, z2, by rw [z3], z4⟩
theorem Kp.put (k : Kp H ids) (c : Hc) (hc : ∀ w ∈ c.succ, w = 0) (hl : H.length < 1000000) : Kp (putH H (lid H) (some c)) (ids ++ [lid H]) ∧ Kp (putH H (lid H) (some c)) ids ∧ idsum (putH H (lid H) (some c)) ids = idsum H ids ∧ idsum (putH H (lid H) (some c)) (ids ++ [lid H]) = idsum H ids + c.need ∧ (putH H (lid H) (some c)).length ≤ H.length + 1 := by
  have hni : ∀ i ∈ ids, i ≠ lid H := by
    intro i hi e
    obtain ⟨d, hd⟩ := k.live i hi
    have := lid_free (H := H) (by rw [← e]; exact k.lt hi)
    rw [e, this] at hd
    cases hd
  have hs : ∀ i ∈ ids, (putH H (lid H) (some c))[i]? = H[i]? := fun i hi => putH_ne H _ i (hni i hi)
  have hself := putH_self H (some c)
  have hlen : (putH H (lid H) (some c)).length ≤ H.length + 1 := by rw [putH_len]; split <;> omega
  have leaf' : ∀ (i : Nat) (d : Hc), (putH H (lid H) (some c))[i]? = some (some d) → ∀ w ∈ d.succ, w = 0 := by
    intro i d hd
    by_cases e : i = lid H
    · subst e
      rw [hself] at hd
      injection hd with hd
      injection hd with hd
      subst hd
      exact hc
    · rw [putH_ne H _ i e] at hd
      exact k.leaf i d hd
  have e1 := idsum_same hs
  refine ⟨⟨leaf', ?_, ?_, by omega⟩, ⟨leaf', fun i hi => by rw [hs i hi]; exact k.live i hi, k.nod, by omega⟩, e1, ?_, hlen⟩
  · intro i hi
    rcases List.mem_append.1 hi with hi | hi
    · rw [hs i hi]; exact k.live i hi
    · simp at hi; subst hi; exact ⟨c, hself⟩
  · rw [List.nodup_append]
    refine ⟨k.nod, by simp, ?_⟩
    intro a ha b hb
    simp at hb
    rw [hb]
    exact hni a ha
  · rw [idsum_snoc, e1, hself]; rfl
end
end Go.Proofs.YtgkfgegfjklnbaaGreat.W
/- Strings: parts of what was put together; how they compare. -/
namespace Go.Proofs.YtgkfgegfjklnbaaGreat.W
open Go.ChangeShapes Go.WideShapes Go.RowKit Go.Shelf
set_option linter.unusedVariables false
/-- behind a string that was boxed, what is wanted of it -/
def TPost (W0 : World) (hb : Nat) (H : List (Option Hc)) (u : Nat) (K : Nat → Prop) (t : ByteArray) (e : Ending) (w' : World) : Prop := ∃ (w : Nat) (H' : List (Option Hc)), e = .returned (.tuple #[.int .u64 (w : Nat), .int .i64 0]) ∧ Hf W0 w' hb H' u K ∧ Ext H H' ∧ IsTxt H' w t ∧ sumH H' ≤ sumH H + tneed t ∧ H'.length ≤ H.length + 1
section
variable {W0 W W1 W' : World} {hb : Nat} {H : List (Option Hc)} {u : Nat} {K K' : Nat → Prop}
theorem TxtPost.t {t : ByteArray} {e : Ending} (h : TxtPost W0 W1 hb H u K t e W') : TPost W0 hb H u K t e W' := by
  obtain ⟨w, H', h1, h2, h3, h4, h5, h6, _⟩ := h
  exact ⟨w, H', h1, h2, h3, h4, h5, h6⟩
end
end Go.Proofs.YtgkfgegfjklnbaaGreat.W
/- TextPlays in plain words: the reference's cells and values, and what a heap of strings and numbers has of them. -/
namespace Go.Proofs.YtgkfgegfjklnbaaGreat.W
open Go.ChangeShapes Go.WideShapes Go.RowKit Go.Shelf
set_option linter.unusedVariables false
/-- a cell of the reference's -/
inductive Rc where
  | gone
  | num
  | txt (n : Nat)
def Rc.need : Rc → Nat
  | .gone => 1
  | .num => 2
  | .txt n => 1 + (n + 7) / 8
def Rc.held : Rc → Bool
  | .gone => false
  | _ => true
/-- is a cell held for sure -/
def hd (L : List Rc) (k : Nat) : Prop := ((L[k]?).getD .gone).held = true
theorem hd_lt {L : List Rc} {k : Nat} (h : hd L k) : k < L.length := by
  apply Nat.lt_of_not_le
  intro hle
  unfold hd at h
  rw [List.getElem?_eq_none hle] at h
  cases h
/-- a value of the reference's: whole, or a string; the cell that it stands in, or -1 -/
structure Tv where
  whole : Bool
  i : Int
  t : ByteArray
  cell : Int
def Tv.hc (v : Tv) : Hc := if v.whole = true then .num v.i else .text (strB v.t)
def Tv.rc (v : Tv) : Rc := if v.whole = true then .num else .txt v.t.size
theorem Tv.need_eq (v : Tv) : v.hc.need = v.rc.need := by
  unfold Tv.hc Tv.rc
  split
  · exact num_need v.i
  · exact text_need v.t
theorem Tv.succ_eq (v : Tv) : ∀ w ∈ v.hc.succ, w = 0 := by
  unfold Tv.hc
  split <;> intro w hw <;> cases hw
theorem Tv.seeds_eq (v : Tv) : ∀ w ∈ v.hc.seeds, w = 0 := by
  unfold Tv.hc
  split <;> intro w hw <;> simp [Hc.seeds, Hc.ws, Hc.cl] at hw <;> exact hw
theorem Tv.rc_held (v : Tv) : v.rc.held = true := by
  unfold Tv.rc
  split <;> rfl
/-- a value that needs no cell, in its word -/
def Tv.small (v : Tv) (w : Nat) : Prop := (v.whole = true ∧ smallB v.i = true ∧ (w : Int) = intW v.i) ∨ (v.whole = false ∧ v.t.size ≤ 5 ∧ (w : Int) = txtW v.t)
/-- is it sure that a value is there -/
def Tv.alive (L : List Rc) (v : Tv) : Prop := v.cell = -1 ∨ ∃ k : Nat, v.cell = k ∧ hd L k
/-- what a heap has of the reference's cells and values -/
structure Tl (H : List (Option Hc)) (L : List Rc) (ws : List Nat) (vs : List Tv) (f : Nat → Nat) : Prop where
  len : ws.length = vs.length
  leaf : ∀ (i : Nat) (c : Hc), H[i]? = some (some c) → ∀ w ∈ c.succ, w = 0
  hlen : H.length ≤ L.length
  llen : L.length ≤ 500000
  cell : ∀ k, hd L k → ∃ d, H[f k]? = some (some d) ∧ d.need = ((L[k]?).getD .gone).need
  inj : ∀ j k, hd L j → hd L k → f j = f k → j = k
  val : ∀ (n : Nat) (v : Tv) (w : Nat), vs[n]? = some v → ws[n]? = some w → (v.cell = -1 ∧ v.small w) ∨ (∃ k : Nat, v.cell = k ∧ k < L.length ∧ (hd L k → w = hw (f k) ∧ H[f k]? = some (some v.hc)))
  rng : ∀ v ∈ vs, v.t.size ≤ 10000 ∧ -9223372036854775808 ≤ v.i ∧ v.i ≤ 9223372036854775807
  wlt : ∀ w ∈ ws, w < 18446744073709551616
/-- the needs of those among the first n that are roots -/
def sumK (L : List Rc) (ks : List Int) : Nat → Nat
  | 0 => 0
  | n + 1 => sumK L ks n + (if (n : Int) ∈ ks then ((L[n]?).getD .gone).need else 0)
/-- those among the first n that are no roots are gone -/
def keepK (L : List Rc) (ks : List Int) : Nat → List Rc
  | 0 => L
  | n + 1 => if (n : Int) ∈ ks then keepK L ks n else (keepK L ks n).set n .gone
theorem keepK_len (L : List Rc) (ks : List Int) (n : Nat) : (keepK L ks n).length = L.length := by
  induction n with
  | zero => rfl
  | succ n ih =>
    unfold keepK
    split
    · exact ih
    · rw [List.length_set]; exact ih
theorem keepK_get (L : List Rc) (ks : List Int) (n k : Nat) : (keepK L ks n)[k]? = if k < n ∧ k < L.length ∧ ¬ (k : Int) ∈ ks then some .gone else L[k]? := by
  induction n with
  | zero =>
    rw [if_neg (fun h => by have := h.1; omega)]
    rfl
  | succ n ih =>
    unfold keepK
    split
    · rename_i hn
      rw [ih]
      by_cases e : k = n
      · subst e
        rw [if_neg (fun h => by have := h.1; omega), if_neg (fun h => h.2.2 hn)]
      · by_cases c : k < n ∧ k < L.length ∧ ¬ (k : Int) ∈ ks
        · rw [if_pos c, if_pos ⟨by omega, c.2⟩]
        · rw [if_neg c, if_neg (fun h => c ⟨by have := h.1; omega, h.2⟩)]
    · rename_i hn
      by_cases e : k = n
      · subst e
        by_cases hl : k < L.length
        · rw [List.getElem?_set_self (by rw [keepK_len]; exact hl), if_pos ⟨by omega, hl, hn⟩]
        · rw [List.getElem?_eq_none (by rw [List.length_set, keepK_len]; omega), if_neg (fun h => hl h.2.1), List.getElem?_eq_none (by omega)]
      · rw [List.getElem?_set_ne (fun h => e h.symm), ih]
        by_cases c : k < n ∧ k < L.length ∧ ¬ (k : Int) ∈ ks
        · rw [if_pos c, if_pos ⟨by omega, c.2⟩]
        · rw [if_neg c, if_neg (fun h => c ⟨by have := h.1; omega, h.2⟩)]
theorem keepK_hd {L : List Rc} {ks : List Int} {k : Nat} : hd (keepK L ks L.length) k ↔ hd L k ∧ (k : Int) ∈ ks := by
  unfold hd
  rw [keepK_get]
  constructor
  · intro h
    split at h
    · cases h
    · rename_i c
      have hk : k < L.length := hd_lt (L := L) h
      refine ⟨h, Classical.byContradiction (fun hc => c ⟨hk, hk, hc⟩)⟩
  · rintro ⟨h, hk⟩
    rw [if_neg (fun c => c.2.2 hk)]
    exact h
/-- handles of the first n that are roots -/
def idsK (f : Nat → Nat) (ks : List Int) : Nat → List Nat
  | 0 => []
  | n + 1 => idsK f ks n ++ (if (n : Int) ∈ ks then [f n] else [])
theorem idsK_mem (f : Nat → Nat) (ks : List Int) (n i : Nat) : i ∈ idsK f ks n ↔ ∃ k, k < n ∧ (k : Int) ∈ ks ∧ i = f k := by
  induction n with
  | zero => simp [idsK]
  | succ n ih =>
    unfold idsK
    rw [List.mem_append, ih]
    constructor
    · rintro (⟨k, h1, h2⟩ | h)
      · exact ⟨k, by omega, h2⟩
      · split at h
        · rename_i hn
          simp at h
          exact ⟨n, by omega, hn, h⟩
        · cases h
    · rintro ⟨k, h1, h2, h3⟩
      by_cases e : k = n
      · subst e
        right
        rw [if_pos h2]
        simp [h3]
      · exact .inl ⟨k, by omega, h2, h3⟩
/-- words and cells of roots -/
structure Rt (H : List (Option Hc)) (L : List Rc) (f : Nat → Nat) (rw' : List Nat) (ks : List Int) : Prop where
  up : ∀ w ∈ rw', hit H w = none ∨ ∃ k : Nat, (k : Int) ∈ ks ∧ w = hw (f k)
  dn : ∀ k : Nat, (k : Int) ∈ ks → hd L k ∧ hw (f k) ∈ rw'
section
variable {H : List (Option Hc)} {L : List Rc} {ws : List Nat} {vs : List Tv} {f : Nat → Nat} {rs : List Nat} {ks : List Int} {u : Nat}
theorem Tl.fk (p : Tl H L ws vs f) {k : Nat} (h : hd L k) : f k < H.length ∧ f k < 281474976710656 := by
  obtain ⟨d, hd', _⟩ := p.cell k h
  have := (List.getElem?_eq_some_iff.1 hd').1
  have h1 := p.hlen
  have h2 := p.llen
  exact ⟨this, by omega⟩
theorem Tl.nod (p : Tl H L ws vs f) (r : Rt H L f rs ks) (n : Nat) : (idsK f ks n).Nodup := by
  induction n with
  | zero => exact List.nodup_nil
  | succ n ih =>
    unfold idsK
    split
    · rename_i hn
      rw [List.nodup_append]
      refine ⟨ih, by simp, ?_⟩
      intro a ha b hb
      simp at hb
      obtain ⟨k, h1, h2, rfl⟩ := (idsK_mem f ks n a).1 ha
      rw [hb]
      intro e
      have := p.inj k n (r.dn k h2).1 (r.dn n hn).1 e
      omega
    · rw [List.append_nil]; exact ih
theorem Tl.ids_sum (p : Tl H L ws vs f) (r : Rt H L f rs ks) (n : Nat) : idsum H (idsK f ks n) = sumK L ks n := by
  induction n with
  | zero => rfl
  | succ n ih =>
    unfold idsK sumK
    split
    · rename_i hn
      rw [idsum_snoc, ih]
      obtain ⟨d, h1, h2⟩ := p.cell n (r.dn n hn).1
      rw [h1, ← h2]
      rfl
    · rw [List.append_nil, ih]; omega
theorem Tl.rch (p : Tl H L ws vs f) (r : Rt H L f rs ks) (ex : List Nat) (hex : ∀ w ∈ ex, w = 0) (i : Nat) : Rch H (rs ++ ex) i ↔ i ∈ idsK f ks L.length := by
  constructor
  · intro h
    induction h with
    | root w i hw' hh =>
      rcases List.mem_append.1 hw' with hw' | hw'
      · rcases r.up w hw' with c | ⟨k, hk, rfl⟩
        · rw [c] at hh; cases hh
        · have hk' := (r.dn k hk).1
          obtain ⟨d, h1, _⟩ := p.cell k hk'
          rw [hit_hw (p.fk hk').2 h1] at hh
          injection hh with hh
          exact (idsK_mem f ks _ i).2 ⟨k, hd_lt hk', hk, hh.symm⟩
      · rw [hex w hw', hit_zero] at hh; cases hh
    | step j i w c _ hc hw' hh _ => rw [p.leaf j c hc w hw', hit_zero] at hh; cases hh
  · intro h
    obtain ⟨k, h1, h2, rfl⟩ := (idsK_mem f ks _ i).1 h
    obtain ⟨h3, h4⟩ := r.dn k h2
    obtain ⟨d, h5, _⟩ := p.cell k h3
    exact .root (hw (f k)) (f k) (List.mem_append_left _ h4) (hit_hw (p.fk h3).2 h5)
theorem Tl.zneed (p : Tl H L ws vs f) (r : Rt H L f rs ks) (ex : List Nat) (hex : ∀ w ∈ ex, w = 0) : needR H (rchB H (rs ++ ex)) = sumK L ks L.length := by
  rw [← p.ids_sum r L.length]
  exact needR_ids H _ (p.nod r _) _ (rchB_len H _) (fun i => (rchB_get H _ i).trans (p.rch r ex hex i))
/-- behind room that is made: what fits, what is left -/
theorem Tl.room (p : Tl H L ws vs f) (r : Rt H L f rs ks) (c : Hc) (hc : ∀ w ∈ c.seeds, w = 0) :
    (sumH (roomH H u c rs) + c.need ≤ u ↔ sumK L ks L.length + c.need ≤ u) ∧ Tl (roomH H u c rs) (keepK L ks L.length) ws vs f := by
  have hz := p.zneed r c.seeds hc
  have hle : sumK L ks L.length ≤ sumH H := by rw [← hz]; exact needR_le H _
  have key : ∀ H1 : List (Option Hc), H1.length = H.length → (∀ i ∈ idsK f ks L.length, H1[i]? = H[i]?) → (∀ (i : Nat) (c : Hc), H1[i]? = some (some c) → H[i]? = some (some c)) → Tl H1 (keepK L ks L.length) ws vs f := by
    intro H1 e1 e2 e3
    have hin : ∀ k, hd (keepK L ks L.length) k → hd L k ∧ H1[f k]? = H[f k]? ∧ ((keepK L ks L.length)[k]?).getD .gone = (L[k]?).getD .gone := by
      intro k h
      obtain ⟨h1, h2⟩ := keepK_hd.1 h
      refine ⟨h1, e2 _ ((idsK_mem f ks _ _).2 ⟨k, hd_lt h1, h2, rfl⟩), ?_⟩
      rw [keepK_get, if_neg (fun c => c.2.2 h2)]
    refine ⟨p.len, fun i c h => p.leaf i c (e3 i c h), by rw [e1, keepK_len]; exact p.hlen, by rw [keepK_len]; exact p.llen, ?_, ?_, ?_, p.rng, p.wlt⟩
    · intro k h
      obtain ⟨h1, h2, h3⟩ := hin k h
      obtain ⟨d, h4, h5⟩ := p.cell k h1
      exact ⟨d, by rw [h2]; exact h4, by rw [h3]; exact h5⟩
    · intro j k hj hk e
      exact p.inj j k (hin j hj).1 (hin k hk).1 e
    · intro n v w hv hw'
      rcases p.val n v w hv hw' with c | ⟨k, h1, h2, h3⟩
      · exact .inl c
      · refine .inr ⟨k, h1, by rw [keepK_len]; exact h2, fun h => ?_⟩
        obtain ⟨h4, h5, _⟩ := hin k h
        rw [h5]
        exact h3 h4
  unfold roomH
  split
  · rename_i hf
    exact ⟨⟨fun _ => by omega, fun _ => hf⟩, key H rfl (fun _ _ => rfl) (fun _ _ h => h)⟩
  · have hlz := zipK_len H _ (rchB_len H (rs ++ c.seeds))
    refine ⟨by rw [zipK_sum, hz], key _ hlz ?_ ?_⟩
    · intro i hi
      obtain ⟨k, h1, h2, rfl⟩ := (idsK_mem f ks _ i).1 hi
      rw [zipK_get H _ (rchB_len H _) _ (p.fk (r.dn k h2).1).1]
      have hr := (rchB_get H (rs ++ c.seeds) (f k)).2 ((p.rch r c.seeds hc _).2 hi)
      rw [if_pos (by rw [List.getD_eq_getElem?_getD, hr]; rfl)]
    · intro i d h
      have hi : i < H.length := by have := (List.getElem?_eq_some_iff.1 h).1; omega
      rw [zipK_get H _ (rchB_len H _) i hi] at h
      split at h
      · exact h
      · cases h
/-- one more -/
theorem Tl.put (p : Tl H L ws vs f) (v : Tv) (hv : v.t.size ≤ 10000 ∧ -9223372036854775808 ≤ v.i ∧ v.i ≤ 9223372036854775807) (hcell : v.cell = L.length) (hl : L.length < 500000) :
    Tl (putH H (lid H) (some v.hc)) (L ++ [v.rc]) (ws ++ [hw (lid H)]) (vs ++ [v]) (fun k => if k = L.length then lid H else f k) := by
  have hlid := lid_le H
  have hH := p.hlen
  have old : ∀ k, k < L.length → ((L ++ [v.rc])[k]?).getD .gone = (L[k]?).getD .gone := fun k hk => by rw [List.getElem?_append_left hk]
  have new : ((L ++ [v.rc])[L.length]?).getD .gone = v.rc := by simp
  have far : ∀ k, hd L k → f k ≠ lid H := by
    intro k h e
    obtain ⟨d, h1, _⟩ := p.cell k h
    have h2 := lid_free (H := H) (by rw [← e]; exact (p.fk h).1)
    rw [e, h2] at h1
    cases h1
  have split' : ∀ k, hd (L ++ [v.rc]) k → k = L.length ∨ (k < L.length ∧ hd L k) := by
    intro k h
    have hk := hd_lt h
    rw [List.length_append] at hk
    by_cases e : k = L.length
    · exact .inl e
    · have hk' : k < L.length := by simp at hk; omega
      refine .inr ⟨hk', ?_⟩
      unfold hd at h ⊢
      rw [old k hk'] at h
      exact h
  refine ⟨by simp [p.len], ?_, ?_, by simp; omega, ?_, ?_, ?_, ?_, ?_⟩
  · intro i d hd'
    by_cases e : i = lid H
    · subst e
      rw [putH_self] at hd'
      injection hd' with hd'
      injection hd' with hd'
      subst hd'
      exact v.succ_eq
    · rw [putH_ne H _ i e] at hd'
      exact p.leaf i d hd'
  · rw [putH_len]
    simp
    split <;> omega
  · intro k h
    rcases split' k h with rfl | ⟨hk, h'⟩
    · rw [if_pos rfl, new]
      exact ⟨_, putH_self H _, v.need_eq⟩
    · rw [if_neg (by omega), old k hk]
      obtain ⟨d, h1, h2⟩ := p.cell k h'
      exact ⟨d, by rw [putH_ne H _ _ (far k h')]; exact h1, h2⟩
  · intro j k hj hk e
    rcases split' j hj with rfl | ⟨j1, j2⟩ <;> rcases split' k hk with rfl | ⟨k1, k2⟩
    · rfl
    · rw [if_pos rfl, if_neg (by omega)] at e
      exact absurd e.symm (far k k2)
    · rw [if_neg (by omega), if_pos rfl] at e
      exact absurd e (far j j2)
    · rw [if_neg (by omega), if_neg (by omega)] at e
      exact p.inj j k j2 k2 e
  · intro n x w hx hw'
    by_cases e : n < vs.length
    · rw [List.getElem?_append_left e] at hx
      rw [List.getElem?_append_left (by rw [p.len]; exact e)] at hw'
      rcases p.val n x w hx hw' with c | ⟨k, h1, h2, h3⟩
      · exact .inl c
      · refine .inr ⟨k, h1, by simp; omega, fun h => ?_⟩
        rcases split' k h with rfl | ⟨_, h'⟩
        · omega
        · obtain ⟨h4, h5⟩ := h3 h'
          rw [if_neg (by omega), putH_ne H _ _ (far k h')]
          exact ⟨h4, h5⟩
    · have hn : n = vs.length := by
        have := (List.getElem?_eq_some_iff.1 hx).1
        simp at this
        omega
      subst hn
      have hx' : v = x := by simpa using hx
      subst hx'
      have hw2 : hw (lid H) = w := by
        rw [← p.len] at hw'
        simpa using hw'
      subst hw2
      exact .inr ⟨L.length, hcell, by simp, fun _ => by rw [if_pos rfl]; exact ⟨rfl, putH_self H _⟩⟩
  · intro x hx
    rcases List.mem_append.1 hx with hx | hx
    · exact p.rng x hx
    · simp at hx; subst hx; exact hv
  · intro w hw'
    rcases List.mem_append.1 hw' with h | h
    · exact p.wlt w h
    · simp at h
      subst h
      unfold hw
      have := p.llen
      omega
/-- one more that needs no cell -/
theorem Tl.more (p : Tl H L ws vs f) (v : Tv) (w : Nat) (hv : v.t.size ≤ 10000 ∧ -9223372036854775808 ≤ v.i ∧ v.i ≤ 9223372036854775807) (hcell : v.cell = -1) (hs : v.small w) (hw' : w < 18446744073709551616) : Tl H L (ws ++ [w]) (vs ++ [v]) f := by
  refine ⟨by simp [p.len], p.leaf, p.hlen, p.llen, p.cell, p.inj, ?_, ?_, ?_⟩
  · intro n x y hx hy
    by_cases e : n < vs.length
    · rw [List.getElem?_append_left e] at hx
      rw [List.getElem?_append_left (by rw [p.len]; exact e)] at hy
      exact p.val n x y hx hy
    · have hn : n = vs.length := by
        have := (List.getElem?_eq_some_iff.1 hx).1
        simp at this
        omega
      subst hn
      have hx' : v = x := by simpa using hx
      subst hx'
      have hy' : w = y := by
        rw [← p.len] at hy
        simpa using hy
      subst hy'
      exact .inl ⟨hcell, hs⟩
  · intro x hx
    rcases List.mem_append.1 hx with hx | hx
    · exact p.rng x hx
    · simp at hx; subst hx; exact hv
  · intro y hy
    rcases List.mem_append.1 hy with h | h
    · exact p.wlt y h
    · simp at h; subst h; exact hw'
/-- a value that is there, in its word -/
theorem Tl.told (p : Tl H L ws vs f) {n : Nat} {v : Tv} {w : Nat} (hv : vs[n]? = some v) (hw' : ws[n]? = some w) (ha : v.alive L) : (v.whole = true → IsInt H w v.i) ∧ (v.whole = false → IsTxt H w v.t) := by
  rcases p.val n v w hv hw' with ⟨_, hs⟩ | ⟨k, h1, h2, h3⟩
  · rcases hs with ⟨c1, c2, c3⟩ | ⟨c1, c2, c3⟩
    · exact ⟨fun _ => .inl ⟨c2, c3⟩, fun c => (by rw [c1] at c; cases c)⟩
    · exact ⟨fun c => (by rw [c1] at c; cases c), fun _ => .inl ⟨c2, c3⟩⟩
  · have hk : hd L k := by
      rcases ha with ha | ⟨j, hj, hh⟩
      · omega
      · have : j = k := by omega
        subst this
        exact hh
    obtain ⟨h4, h5⟩ := h3 hk
    have hb := (p.fk hk).2
    constructor
    · intro c
      unfold Tv.hc at h5
      rw [if_pos c] at h5
      exact .inr ⟨f k, h4, hb, h5⟩
    · intro c
      unfold Tv.hc at h5
      rw [if_neg (by simp [c])] at h5
      exact .inr ⟨f k, h4, hb, h5⟩
end
end Go.Proofs.YtgkfgegfjklnbaaGreat.W
