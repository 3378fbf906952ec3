import Derived.Test.YtndkfjoaiinjoaaGreatBase28
import Derived.Laws.MakeOwn
import Derived.Test.YtndkfjoaiinjoaaGreatBase20
import Derived.Test.YtndkfjoaiinjoaaGreatBase22
import Derived.Test.YtndkfjoaiinjoaaGreatBase27
/- Package heap: load and Get, of a row. -/
namespace Go.Proofs.YtndkfjoaiinjoaaGreat.W
open Go.ChangeShapes Go.WideShapes Go.RowKit Go.Shelf
set_option linter.unusedVariables false
section
variable {W W' : World} {hb sb : Nat} {vc : Value} {T : Nat → Prop} {H : List (Option Hc)} {u h : Nat}
end
end Go.Proofs.YtndkfjoaiinjoaaGreat.W
/- Steps of statements over a heap of their own: a view is put, what is reached is left; bytes and words that are made. -/
namespace Go.Proofs.YtndkfjoaiinjoaaGreat.W
open Go.ChangeShapes Go.WideShapes Go.RowKit Go.Shelf
set_option linter.unusedVariables false
section
variable {W0 W W1 W' : World} {hb : Nat} {H : List (Option Hc)} {u : Nat} {K K' : Nat → Prop}
end
end Go.Proofs.YtndkfjoaiinjoaaGreat.W
/- Cells that refer to none, some of them kept: what is reached, what is left, what fits. -/
namespace Go.Proofs.YtndkfjoaiinjoaaGreat.W
open Go.ChangeShapes Go.WideShapes Go.RowKit Go.Shelf
set_option linter.unusedVariables false
/-- no cell refers to another one; ids are cells, each once -/
structure Kp (H : List (Option Hc)) (ids : List Nat) : Prop where
  leaf : ∀ (i : Nat) (c : Hc), H[i]? = some (some c) → ∀ w ∈ c.succ, w = 0
  live : ∀ i ∈ ids, ∃ c, H[i]? = some (some c)
  nod : ids.Nodup
  len : H.length ≤ 1000000
/-- what they need -/
def idsum (H : List (Option Hc)) (ids : List Nat) : Nat := (ids.map (fun i => needO ((H[i]?).getD none))).foldr (· + ·) 0
theorem idsum_cons (H : List (Option Hc)) (i : Nat) (ids : List Nat) : idsum H (i :: ids) = needO ((H[i]?).getD none) + idsum H ids := rfl
theorem idsum_snoc (H : List (Option Hc)) (ids : List Nat) (i : Nat) : idsum H (ids ++ [i]) = idsum H ids + needO ((H[i]?).getD none) := by
  induction ids with
  | nil => simp [idsum]
  | cons a r ih => rw [List.cons_append, idsum_cons, idsum_cons, ih]; omega
theorem idsum_same {H H' : List (Option Hc)} {ids : List Nat} (h : ∀ i ∈ ids, H'[i]? = H[i]?) : idsum H' ids = idsum H ids := by
  induction ids with
  | nil => rfl
  | cons a r ih => rw [idsum_cons, idsum_cons, h a (by simp), ih (fun i hi => h i (by simp [hi]))]
theorem bools_false {R : List Bool} {n : Nat} (hl : R.length = n) (h : ∀ i : Nat, ¬ R[i]? = some true) : R = List.replicate n false := by
  apply List.ext_getElem?
  intro i
  by_cases hi : i < n
  · rw [List.getElem?_replicate, if_pos hi]
    have e : R[i]? = some R[i] := List.getElem?_eq_getElem (by omega)
    cases hx : R[i] with
    | true => exact absurd (by rw [e, hx]) (h i)
    | false => rw [e, hx]
  · rw [List.getElem?_eq_none (by omega), List.getElem?_eq_none (by simp; omega)]
theorem needR_ids (H : List (Option Hc)) (ids : List Nat) (hn : ids.Nodup) (R : List Bool) (hl : R.length = H.length) (hR : ∀ i : Nat, R[i]? = some true ↔ i ∈ ids) : needR H R = idsum H ids := by
  induction ids generalizing R with
  | nil =>
    rw [bools_false hl (fun i e => by have := (hR i).1 e; cases this)]
    exact needR_false H _
  | cons a r ih =>
    have hn' := List.nodup_cons.1 hn
    have ha := (hR a).2 (by simp)
    have hal : a < R.length := (List.getElem?_eq_some_iff.1 ha).1
    have e1 : (R.set a false).set a true = R := by
      apply List.ext_getElem?
      intro i
      rw [List.set_set]
      by_cases h : i = a
      · subst h; rw [List.getElem?_set_self hal, ha]
      · rw [List.getElem?_set_ne (fun e => h e.symm)]
    have hs : ∀ i : Nat, (R.set a false)[i]? = some true ↔ i ∈ r := by
      intro i
      by_cases h : i = a
      · subst h
        rw [List.getElem?_set_self hal]
        simp [hn'.1]
      · rw [List.getElem?_set_ne (fun e => h e.symm), hR i]
        simp [h]
    have ih' := ih hn'.2 (R.set a false) (by rw [List.length_set]; exact hl) hs
    have hH : H[a]? = some H[a] := List.getElem?_eq_getElem (by omega)
    have := needR_set H (R.set a false) a H[a] (by rw [List.length_set]; exact hl) hH (List.getElem?_set_self hal)
    rw [e1, ih'] at this
    rw [this, idsum_cons, hH]
    simp only [Option.getD_some]
    omega
section
variable {H : List (Option Hc)} {ids : List Nat} {u : Nat}
theorem Kp.lt (k : Kp H ids) {i : Nat} (hi : i ∈ ids) : i < H.length := by
  obtain ⟨c, hc⟩ := k.live i hi
  exact (List.getElem?_eq_some_iff.1 hc).1
theorem Kp.rch (k : Kp H ids) (ex : List Nat) (hex : ∀ w ∈ ex, w = 0) (i : Nat) : Rch H (ids.map hw ++ ex) i ↔ i ∈ ids := by
  constructor
  · intro h
    induction h with
    | root w i hw' hh =>
      rcases List.mem_append.1 hw' with hw' | hw'
      · obtain ⟨j, hj, rfl⟩ := List.mem_map.1 hw'
        obtain ⟨c, hc⟩ := k.live j hj
        rw [hit_hw (by have := k.lt hj; have := k.len; omega) hc] at hh
        injection hh with hh
        rw [← hh]; exact hj
      · rw [hex w hw', hit_zero] at hh; cases hh
    | step j i w c _ hc hw' hh _ => rw [k.leaf j c hc w hw', hit_zero] at hh; cases hh
  · intro h
    obtain ⟨c, hc⟩ := k.live i h
    exact .root (hw i) i (List.mem_append_left _ (List.mem_map_of_mem h)) (hit_hw (by have := k.lt h; have := k.len; omega) hc)
theorem Kp.need (k : Kp H ids) (ex : List Nat) (hex : ∀ w ∈ ex, w = 0) : needR H (rchB H (ids.map hw ++ ex)) = idsum H ids :=
  needR_ids H ids k.nod _ (rchB_len H _) (fun i => (rchB_get H _ i).trans (k.rch ex hex i))
theorem Kp.reach (k : Kp H ids) : reachN H (ids.map hw) = idsum H ids := by
  have := k.need [] (by simp)
  rw [List.append_nil] at this
  exact this
theorem Kp.le (k : Kp H ids) : idsum H ids ≤ sumH H := by
  rw [← k.reach]; exact needR_le H _
theorem Kp.zip (k : Kp H ids) (ex : List Nat) (hex : ∀ w ∈ ex, w = 0) : Kp (zipK H (rchB H (ids.map hw ++ ex))) ids ∧ (∀ i ∈ ids, (zipK H (rchB H (ids.map hw ++ ex)))[i]? = H[i]?) ∧ sumH (zipK H (rchB H (ids.map hw ++ ex))) = idsum H ids ∧ (zipK H (rchB H (ids.map hw ++ ex))).length = H.length := by
  have hl := zipK_len H _ (rchB_len H (ids.map hw ++ ex))
  have hs : ∀ i ∈ ids, (zipK H (rchB H (ids.map hw ++ ex)))[i]? = H[i]? := by
    intro i hi
    rw [zipK_get H _ (rchB_len H _) i (k.lt hi)]
    have hr := (rchB_get H (ids.map hw ++ ex) i).2 ((k.rch ex hex i).2 hi)
    rw [if_pos (by rw [List.getD_eq_getElem?_getD, hr]; rfl)]
  refine ⟨⟨?_, ?_, k.nod, by rw [hl]; exact k.len⟩, hs, by rw [zipK_sum]; exact k.need ex hex, hl⟩
  · intro i c hc
    have hi : i < H.length := by have := (List.getElem?_eq_some_iff.1 hc).1; omega
    rw [zipK_get H _ (rchB_len H _) i hi] at hc
    split at hc
    · exact k.leaf i c hc
    · cases hc
  · intro i hi
    rw [hs i hi]; exact k.live i hi
theorem Kp.room (k : Kp H ids) (c : Hc) (hc : ∀ w ∈ c.seeds, w = 0) : Kp (roomH H u c (ids.map hw)) ids ∧ (∀ i ∈ ids, (roomH H u c (ids.map hw))[i]? = H[i]?) ∧ (sumH (roomH H u c (ids.map hw)) + c.need ≤ u ↔ idsum H ids + c.need ≤ u) ∧ (roomH H u c (ids.map hw)).length = H.length := by
  unfold roomH
  have hle := k.le
  split
  · exact ⟨k, fun _ _ => rfl, ⟨fun _ => by omega, fun _ => by assumption⟩, rfl⟩
  · obtain ⟨z1, z2, z3, z4⟩ := k.zip c.seeds hc
    exact ⟨z1, z2, by rw [z3], z4⟩
theorem Kp.put (k : Kp H ids) (c : Hc) (hc : ∀ w ∈ c.succ, w = 0) (hl : H.length < 1000000) : Kp (putH H (lid H) (some c)) (ids ++ [lid H]) ∧ Kp (putH H (lid H) (some c)) ids ∧ idsum (putH H (lid H) (some c)) ids = idsum H ids ∧ idsum (putH H (lid H) (some c)) (ids ++ [lid H]) = idsum H ids + c.need ∧ (putH H (lid H) (some c)).length ≤ H.length + 1 := by
  have hni : ∀ i ∈ ids, i ≠ lid H := by
    intro i hi e
    obtain ⟨d, hd⟩ := k.live i hi
    have := lid_free (H := H) (by rw [← e]; exact k.lt hi)
    rw [e, this] at hd
    cases hd
  have hs : ∀ i ∈ ids, (putH H (lid H) (some c))[i]? = H[i]? := fun i hi => putH_ne H _ i (hni i hi)
  have hself := putH_self H (some c)
  have hlen : (putH H (lid H) (some c)).length ≤ H.length + 1 := by rw [putH_len]; split <;> omega
  have leaf' : ∀ (i : Nat) (d : Hc), (putH H (lid H) (some c))[i]? = some (some d) → ∀ w ∈ d.succ, w = 0 := by
    intro i d hd
    by_cases e : i = lid H
    · subst e
      rw [hself] at hd
      injection hd with hd
      injection hd with hd
      subst hd
      exact hc
    · rw [putH_ne H _ i e] at hd
      exact k.leaf i d hd
  have e1 := idsum_same hs
  refine ⟨⟨leaf', ?_, ?_, by omega⟩, ⟨leaf', fun i hi => by rw [hs i hi]; exact k.live i hi, k.nod, by omega⟩, e1, ?_, hlen⟩
  · intro i hi
    rcases List.mem_append.1 hi with hi | hi
    · rw [hs i hi]; exact k.live i hi
    · simp at hi; subst hi; exact ⟨c, hself⟩
  · rw [List.nodup_append]
    refine ⟨k.nod, by simp, ?_⟩
    intro a ha b hb
    simp at hb
    rw [hb]
    exact hni a ha
  · rw [idsum_snoc, e1, hself]; rfl
end
end Go.Proofs.YtndkfjoaiinjoaaGreat.W
